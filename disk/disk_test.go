package disk

import (
	"bytes"
	"math"
	"slices"
	"strconv"
	"strings"
	"testing"

	"drover/api"
)

const mebibyte = 1 << 20

// must has a call done.
func must(t *testing.T, e api.Errno) {
	t.Helper()
	if e != api.OK {
		t.Fatalf("refused: %d", e)
	}
}

func want(t *testing.T, told string, got, want api.Errno) {
	t.Helper()
	if got != want {
		t.Errorf("%s: %d, want %d", told, got, want)
	}
}

// holds: what is on the disk, as name=bytes, in the order in which it is listed.
func holds(t *testing.T, d *Disk, told string, want ...string) {
	t.Helper()
	var got []string
	for _, name := range d.List() {
		b, e := d.Read(name)
		if e != api.OK {
			t.Errorf("%s: Read(%q): %d", told, name, e)
		}
		got = append(got, name+"="+string(b))
	}
	if !slices.Equal(got, want) {
		t.Errorf("%s: %q, want %q", told, got, want)
	}
}

// with is a disk that has a file a of these bytes, synced and then not.
func with(t *testing.T, synced, loose string) *Disk {
	t.Helper()
	d := New()
	add(t, d, "a", synced, loose)
	return d
}

func add(t *testing.T, d *Disk, name, synced, loose string) {
	t.Helper()
	must(t, d.Append(name, []byte(synced)))
	must(t, d.Sync(name))
	must(t, d.Append(name, []byte(loose)))
}

// left tells how many operations are still done; the disk is down then. More than twenty are all.
func left(d *Disk) int {
	for n := range 20 {
		if d.Append("left", nil) == api.ErrLost {
			return n
		}
	}
	return -1
}

// P5.2, P5.3, P5.4: the chapter's examples.
func TestExamples(t *testing.T) {
	for _, c := range []struct {
		choices []byte
		want    string
	}{{nil, "xy"}, {[]byte{}, "xy"}, {[]byte{1}, "xyz"}, {[]byte{129}, "xy\x85"}} {
		d := with(t, "xy", "z")
		d.Restart(c.choices)
		holds(t, d, "Restart", "a="+c.want)
	}
	d := New()
	d.SetFuse(1)
	want(t, "Append", d.Append("a", []byte("b")), api.OK)
	want(t, "Sync", d.Sync("a"), api.ErrLost)
	if !d.Down() {
		t.Error("up")
	}
	b, e := d.Read("a")
	want(t, "Read", e, api.ErrLost)
	if len(b) > 0 {
		t.Error(b)
	}
}

// P5.1: a new disk is up, without files and without a fuse, and hangs on no other.
func TestNew(t *testing.T) {
	d, other := New(), New()
	if d == nil || d.Down() || len(d.List()) != 0 {
		t.Fatal("not new")
	}
	for range 1000 {
		must(t, d.Append("a", []byte("x")))
	}
	d.SetFuse(0)
	want(t, "Sync", d.Sync("a"), api.ErrLost)
	if other.Down() || len(other.List()) != 0 || len(New().List()) != 0 || New().Down() {
		t.Error("hangs on another")
	}
	must(t, other.Append("a", []byte("y")))
	d.Restart([]byte{2})
	holds(t, d, "the one", "a=xx")
	holds(t, other, "the other", "a=y")
}

// P5.1: names are listed rising, byte by byte; none, if the disk is down.
func TestList(t *testing.T) {
	rising := []string{".", "..", ".a", "0", "00", "1", "10", "2", "9", "a", "a.", "a.b", "a0", "aa", "ab", "b", "z", "zz"}
	d := New()
	for i := range rising {
		must(t, d.Append(rising[i*7%len(rising)], nil))
	}
	if got := d.List(); !slices.Equal(got, rising) {
		t.Errorf("%q", got)
	}
	d.SetFuse(0)
	if got := d.List(); !slices.Equal(got, rising) || d.Down() {
		t.Error("a fuse alone brings no disk down")
	}
	want(t, "Remove", d.Remove("a"), api.ErrLost)
	if got := d.List(); len(got) != 0 || !d.Down() {
		t.Errorf("down: %q", got)
	}
	d.Restart(nil)
	if got := d.List(); !slices.Equal(got, rising) || d.Down() {
		t.Errorf("up again: %q", got)
	}
}

// P5.1: a fuse says how many operations are done; a later one stands in its place; below 0 there is none.
func TestSetFuse(t *testing.T) {
	for n := range 6 {
		d := New()
		d.SetFuse(n)
		if got := left(d); got != n || !d.Down() {
			t.Errorf("SetFuse(%d): %d done", n, got)
		}
	}
	for _, n := range []int{-1, -2, math.MinInt, math.MaxInt} {
		d := New()
		d.SetFuse(2)
		d.SetFuse(n)
		if got := left(d); got != -1 || d.Down() {
			t.Errorf("SetFuse(%d): %d done", n, got)
		}
	}
	d := New()
	d.SetFuse(1)
	d.SetFuse(3)
	if got := left(d); got != 3 {
		t.Error("a greater one", got)
	}
	d.SetFuse(5)
	if !d.Down() || d.Append("a", nil) != api.ErrLost {
		t.Error("a fuse brings no disk up")
	}
	d.SetFuse(-1)
	if !d.Down() {
		t.Error("nor does none")
	}
}

// P5.2: names of 1 to 32 bytes, of a to z, 0 to 9 and the point; of the others none is a file's, of Append and of Rename.
func TestNames(t *testing.T) {
	good := []string{"a", ".", "z", "0", "9", "log.0", strings.Repeat("a", 31), strings.Repeat("z", 32), strings.Repeat(".", 32)}
	bad := []string{"", strings.Repeat("a", 33), strings.Repeat(".", 64), strings.Repeat("a", 5000), "é", "a\x00", strings.Repeat("a", 31) + "é"}
	for c := range 256 {
		s := string([]byte{byte(c)})
		for _, name := range []string{s, s + "a", "a" + s, "a" + s + "a", strings.Repeat("a", 31) + s} {
			if c >= 'a' && c <= 'z' || c >= '0' && c <= '9' || c == '.' {
				good = append(good, name)
			} else {
				bad = append(bad, name)
			}
		}
	}
	for _, name := range good {
		d := New()
		want(t, "Append "+name, d.Append(name, []byte("x")), api.OK)
		holds(t, d, "Append", name+"=x")
		d = New()
		must(t, d.Append("other", []byte("y")))
		want(t, "Rename "+name, d.Rename("other", name), api.OK)
		holds(t, d, "Rename", name+"=y")
	}
	for _, name := range bad {
		d := New()
		must(t, d.Append("other", []byte("y")))
		want(t, "Append "+name, d.Append(name, []byte("x")), api.ErrForm)
		want(t, "Rename to "+name, d.Rename("other", name), api.ErrForm)
		want(t, "Rename from "+name, d.Rename(name, "other"), api.ErrNone)
		want(t, "Sync "+name, d.Sync(name), api.ErrNone)
		want(t, "Remove "+name, d.Remove(name), api.ErrNone)
		want(t, "Truncate "+name, d.Truncate(name, 0), api.ErrNone)
		_, e := d.Read(name)
		want(t, "Read "+name, e, api.ErrNone)
		holds(t, d, "bad names", "other=y")
	}
}

// full is a disk of MaxFiles files, a among them.
func full(t *testing.T) *Disk {
	t.Helper()
	d := with(t, "xy", "z")
	for i := range api.MaxFiles - 1 {
		must(t, d.Append("f"+strconv.Itoa(i), nil))
	}
	return d
}

// P5.2, R2: each call's errors, and which goes first where several apply; and that a refused call burns no fuse and changes nothing (R4).
func TestRefused(t *testing.T) {
	tooLong := make([]byte, mebibyte+1)
	calls := []struct {
		told string
		call func(d *Disk) api.Errno
		want api.Errno
	}{
		{"Append: no name", func(d *Disk) api.Errno { return d.Append("A", nil) }, api.ErrForm},
		{"Append: no name ahead of too long", func(d *Disk) api.Errno { return d.Append("A", tooLong) }, api.ErrForm},
		{"Append: full", func(d *Disk) api.Errno { return d.Append("b", nil) }, api.ErrFull},
		{"Append: full ahead of too long", func(d *Disk) api.Errno { return d.Append("b", tooLong) }, api.ErrFull},
		{"Append: too long", func(d *Disk) api.Errno { return d.Append("a", tooLong) }, api.ErrLong},
		{"Append: too long with what is there", func(d *Disk) api.Errno { return d.Append("a", tooLong[:mebibyte-2]) }, api.ErrLong},
		{"Append: too long by one", func(d *Disk) api.Errno { return d.Append("f0", tooLong) }, api.ErrLong},
		{"Sync: none", func(d *Disk) api.Errno { return d.Sync("b") }, api.ErrNone},
		{"Sync: no name", func(d *Disk) api.Errno { return d.Sync("") }, api.ErrNone},
		{"Rename: none", func(d *Disk) api.Errno { return d.Rename("b", "c") }, api.ErrNone},
		{"Rename: none, to itself", func(d *Disk) api.Errno { return d.Rename("b", "b") }, api.ErrNone},
		{"Rename: none, to one that is there", func(d *Disk) api.Errno { return d.Rename("b", "a") }, api.ErrNone},
		{"Rename: none ahead of no name", func(d *Disk) api.Errno { return d.Rename("b", "B") }, api.ErrNone},
		{"Rename: no name", func(d *Disk) api.Errno { return d.Rename("a", "B") }, api.ErrForm},
		{"Remove: none", func(d *Disk) api.Errno { return d.Remove("b") }, api.ErrNone},
		{"Truncate: none", func(d *Disk) api.Errno { return d.Truncate("b", 0) }, api.ErrNone},
		{"Truncate: none ahead of the range", func(d *Disk) api.Errno { return d.Truncate("b", -1) }, api.ErrNone},
		{"Truncate: below", func(d *Disk) api.Errno { return d.Truncate("a", -1) }, api.ErrRange},
		{"Truncate: far below", func(d *Disk) api.Errno { return d.Truncate("a", math.MinInt) }, api.ErrRange},
		{"Truncate: beyond", func(d *Disk) api.Errno { return d.Truncate("a", 4) }, api.ErrRange},
		{"Truncate: far beyond", func(d *Disk) api.Errno { return d.Truncate("a", math.MaxInt) }, api.ErrRange},
		{"Truncate: beyond nothing", func(d *Disk) api.Errno { return d.Truncate("f0", 1) }, api.ErrRange},
		{"Read: none", func(d *Disk) api.Errno { _, e := d.Read("b"); return e }, api.ErrNone},
		{"Read: no name", func(d *Disk) api.Errno { _, e := d.Read(""); return e }, api.ErrNone},
	}
	for _, c := range calls {
		for fuse := -1; fuse < 3; fuse++ {
			d := full(t)
			d.SetFuse(fuse)
			names := d.List()
			want(t, c.told, c.call(d), c.want)
			if d.Down() || !slices.Equal(d.List(), names) {
				t.Errorf("%s: has changed something", c.told)
			}
			if b, e := d.Read("a"); e != api.OK || string(b) != "xyz" {
				t.Errorf("%s: %q, %d", c.told, b, e)
			}
			d.Restart(nil)
			if b, _ := d.Read("a"); string(b) != "xy" {
				t.Errorf("%s: behind a crash %q", c.told, b)
			}
		}
		for fuse := range 3 {
			d := full(t)
			must(t, d.Remove("f62"))
			must(t, d.Append("left", nil))
			d.SetFuse(fuse)
			want(t, c.told, c.call(d), c.want)
			if got := left(d); got != fuse {
				t.Errorf("%s: of a fuse of %d there was %d", c.told, fuse, got)
			}
		}
		d := full(t)
		d.SetFuse(0)
		d.Sync("a")
		want(t, c.told+", down", c.call(d), api.ErrLost)
	}
}

// P5.2: each operation takes one off the fuse; with none left it isn't done, and the disk is down.
func TestOperationsBurn(t *testing.T) {
	operations := []struct {
		told string
		call func(d *Disk) api.Errno
		done []string
	}{
		{"Append", func(d *Disk) api.Errno { return d.Append("a", []byte("w")) }, []string{"a=xyzw", "b=2"}},
		{"Append of nothing", func(d *Disk) api.Errno { return d.Append("a", nil) }, []string{"a=xyz", "b=2"}},
		{"Append of a new one", func(d *Disk) api.Errno { return d.Append("c", []byte("3")) }, []string{"a=xyz", "b=2", "c=3"}},
		{"Append of a new one of nothing", func(d *Disk) api.Errno { return d.Append("c", nil) }, []string{"a=xyz", "b=2", "c="}},
		{"Sync", func(d *Disk) api.Errno { return d.Sync("a") }, []string{"a=xyz", "b=2"}},
		{"Sync of what is synced", func(d *Disk) api.Errno { return d.Sync("b") }, []string{"a=xyz", "b=2"}},
		{"Rename", func(d *Disk) api.Errno { return d.Rename("a", "c") }, []string{"b=2", "c=xyz"}},
		{"Rename to one that is there", func(d *Disk) api.Errno { return d.Rename("a", "b") }, []string{"b=xyz"}},
		{"Rename to itself", func(d *Disk) api.Errno { return d.Rename("a", "a") }, []string{"a=xyz", "b=2"}},
		{"Remove", func(d *Disk) api.Errno { return d.Remove("a") }, []string{"b=2"}},
		{"Truncate", func(d *Disk) api.Errno { return d.Truncate("a", 1) }, []string{"a=x", "b=2"}},
		{"Truncate to all", func(d *Disk) api.Errno { return d.Truncate("a", 3) }, []string{"a=xyz", "b=2"}},
	}
	two := func() *Disk {
		d := with(t, "xy", "z")
		add(t, d, "b", "2", "")
		return d
	}
	for _, o := range operations {
		for fuse := 1; fuse < 4; fuse++ {
			d := two()
			d.SetFuse(fuse)
			want(t, o.told, o.call(d), api.OK)
			holds(t, d, o.told, o.done...)
			if got := left(d); got != fuse-1 {
				t.Errorf("%s: of a fuse of %d %d are left", o.told, fuse, got)
			}
		}
		d := two()
		d.SetFuse(0)
		if d.Down() {
			t.Errorf("%s: down ahead of it", o.told)
		}
		want(t, o.told+" without a fuse left", o.call(d), api.ErrLost)
		if !d.Down() || len(d.List()) != 0 {
			t.Errorf("%s: isn't down", o.told)
		}
		want(t, o.told+" on a disk that is down", o.call(d), api.ErrLost)
		d.Restart([]byte{1})
		holds(t, d, o.told+", not done", "a=xyz", "b=2")
		d = two()
		d.SetFuse(0)
		want(t, o.told+" without a fuse left", o.call(d), api.ErrLost)
		d.Restart(nil)
		holds(t, d, o.told+", not done, nothing kept", "a=xy", "b=2")
	}
}

// P5.1, P5.3: what is no operation burns no fuse, and is answered while the fuse is 0.
func TestQueriesBurnNothing(t *testing.T) {
	for fuse := range 3 {
		d := with(t, "xy", "z")
		must(t, d.Append("left", nil))
		d.SetFuse(fuse)
		for range 5 {
			if b, e := d.Read("a"); e != api.OK || string(b) != "xyz" || d.Down() || len(d.List()) != 2 {
				t.Error(b, e)
			}
		}
		if got := left(d); got != fuse {
			t.Errorf("of a fuse of %d there was %d", fuse, got)
		}
	}
}

// P5.2: a disk has at most MaxFiles files: what is there goes on growing, and room that was made is room.
func TestFull(t *testing.T) {
	d := full(t)
	if got := len(d.List()); got != api.MaxFiles {
		t.Fatal(got)
	}
	want(t, "one more", d.Append("b", []byte("x")), api.ErrFull)
	want(t, "one that is there", d.Append("f0", []byte("x")), api.OK)
	want(t, "Rename", d.Rename("f0", "b"), api.OK)
	want(t, "one more", d.Append("f0", nil), api.ErrFull)
	want(t, "Remove", d.Remove("f1"), api.OK)
	want(t, "in its place", d.Append("f0", nil), api.OK)
	want(t, "one more", d.Append("f1", nil), api.ErrFull)
	want(t, "Rename to one that is there", d.Rename("f0", "f2"), api.OK)
	want(t, "in its place", d.Append("f0", nil), api.OK)
	want(t, "one more", d.Append("f1", nil), api.ErrFull)
	d.Restart(nil)
	if got := len(d.List()); got != api.MaxFiles {
		t.Error("a crash takes no file", got)
	}
	want(t, "one more", d.Append("f1", nil), api.ErrFull)
}

// P5.2: a file has at most 2^20 bytes, in one piece or several.
func TestLong(t *testing.T) {
	d := New()
	all := bytes.Repeat([]byte("0123456789abcdef"), mebibyte/16)
	want(t, "a new one, one byte more", d.Append("a", append(all, 'x')), api.ErrLong)
	if len(d.List()) != 0 {
		t.Error("a refused file is there")
	}
	want(t, "all", d.Append("a", all), api.OK)
	want(t, "one byte more", d.Append("a", []byte("x")), api.ErrLong)
	want(t, "nothing more", d.Append("a", nil), api.OK)
	if b, e := d.Read("a"); e != api.OK || !bytes.Equal(b, all) {
		t.Error("not the bytes", len(b), e)
	}
	must(t, d.Truncate("a", mebibyte-2))
	want(t, "three of two", d.Append("a", []byte("xyz")), api.ErrLong)
	want(t, "two of two", d.Append("a", []byte("xy")), api.OK)
	want(t, "one of none", d.Append("a", []byte("z")), api.ErrLong)
	want(t, "another file", d.Append("b", all), api.OK)
	if b, e := d.Read("a"); e != api.OK || !bytes.Equal(b[:mebibyte-2], all[:mebibyte-2]) || string(b[mebibyte-2:]) != "xy" {
		t.Error("not the bytes", len(b), e)
	}
	d.Restart([]byte{5, 255})
	if b, _ := d.Read("a"); string(b) != "01234" {
		t.Errorf("%q", b)
	}
	if b, _ := d.Read("b"); len(b) != 255 || b[254] != ^all[254] || !bytes.Equal(b[:254], all[:254]) {
		t.Errorf("%q", b)
	}
}

// P5.2: Append's bytes stand behind the file's, and an empty file is one.
func TestAppend(t *testing.T) {
	d := New()
	must(t, d.Append("a", nil))
	holds(t, d, "nothing", "a=")
	must(t, d.Append("a", []byte("x")))
	must(t, d.Append("b", []byte{}))
	must(t, d.Append("a", []byte("\x00\xff")))
	must(t, d.Append("a", nil))
	holds(t, d, "some", "a=x\x00\xff", "b=")
	must(t, d.Remove("a"))
	must(t, d.Append("a", []byte("y")))
	holds(t, d, "anew", "a=y", "b=")
	d.Restart(nil)
	holds(t, d, "a crash takes bytes, not files", "a=", "b=")
}

// P5.2: Sync makes all bytes synced that are there, of that file alone.
func TestSync(t *testing.T) {
	d := with(t, "x", "y")
	add(t, d, "b", "", "z")
	must(t, d.Sync("a"))
	must(t, d.Append("a", []byte("w")))
	d.Restart(nil)
	holds(t, d, "Sync", "a=xy", "b=")
}

// P5.2: a renamed file has its bytes, and as many synced as it had; one that was called so is gone with all it had.
func TestRename(t *testing.T) {
	d := with(t, "xy", "z")
	add(t, d, "b", "0123456789", "0")
	must(t, d.Rename("a", "b"))
	holds(t, d, "Rename", "b=xyz")
	want(t, "the old name", d.Sync("a"), api.ErrNone)
	d.Restart(nil)
	holds(t, d, "Rename and a crash", "b=xy")

	d = with(t, "xy", "z")
	must(t, d.Rename("a", "a"))
	holds(t, d, "to itself", "a=xyz")
	d.Restart(nil)
	holds(t, d, "to itself and a crash", "a=xy")

	d = with(t, "xy", "z")
	must(t, d.Rename("a", "b"))
	must(t, d.Append("a", []byte("new")))
	must(t, d.Append("b", []byte("w")))
	must(t, d.Sync("b"))
	holds(t, d, "two files, not one", "a=new", "b=xyzw")
	d.Restart(nil)
	holds(t, d, "two files, not one, and a crash", "a=", "b=xyzw")
}

// P5.2: a removed file is gone, also behind a crash, and one that is made anew has nothing of it.
func TestRemove(t *testing.T) {
	d := with(t, "xy", "z")
	add(t, d, "b", "k", "")
	must(t, d.Remove("a"))
	want(t, "twice", d.Remove("a"), api.ErrNone)
	holds(t, d, "Remove", "b=k")
	must(t, d.Append("a", []byte("new")))
	d.Restart([]byte{2})
	holds(t, d, "anew", "a=ne", "b=k")
	must(t, d.Remove("a"))
	d.Restart(nil)
	holds(t, d, "gone", "b=k")
}

// P5.2: Truncate leaves the first n bytes, of which as many are synced as were: behind a Sync and ahead of it.
func TestTruncate(t *testing.T) {
	for _, c := range []struct {
		synced, loose string
		n             int
		there, kept   string
	}{
		{"wxy", "z12", 6, "wxyz12", "wxy"},
		{"wxy", "z12", 5, "wxyz1", "wxy"},
		{"wxy", "z12", 4, "wxyz", "wxy"},
		{"wxy", "z12", 3, "wxy", "wxy"},
		{"wxy", "z12", 2, "wx", "wx"},
		{"wxy", "z12", 0, "", ""},
		{"wxy", "", 3, "wxy", "wxy"},
		{"wxy", "", 1, "w", "w"},
		{"", "wxy", 3, "wxy", ""},
		{"", "wxy", 1, "w", ""},
		{"", "", 0, "", ""},
	} {
		d := with(t, c.synced, c.loose)
		must(t, d.Truncate("a", c.n))
		holds(t, d, "Truncate", "a="+c.there)
		d.Restart(nil)
		holds(t, d, "Truncate and a crash", "a="+c.kept)

		d = with(t, c.synced, c.loose)
		must(t, d.Truncate("a", c.n))
		must(t, d.Append("a", []byte("!!!!!!!")))
		holds(t, d, "Truncate, Append", "a="+c.there+"!!!!!!!")
		d.Restart(nil)
		holds(t, d, "what came behind isn't synced", "a="+c.kept)

		d = with(t, c.synced, c.loose)
		must(t, d.Truncate("a", c.n))
		must(t, d.Sync("a"))
		d.Restart(nil)
		holds(t, d, "Truncate, Sync and a crash", "a="+c.there)
	}
}

// P5.4: every choice, at every number of bytes that aren't synced, with bytes ahead that are and without.
func TestEveryChoice(t *testing.T) {
	loose := make([]byte, 300)
	for i := range loose {
		loose[i] = byte(i * 7)
	}
	for _, synced := range []string{"", "firm"} {
		for u := 1; u <= len(loose); u++ {
			for c := range 256 {
				d := New()
				must(t, d.Append("a", []byte(synced)))
				must(t, d.Sync("a"))
				must(t, d.Append("a", loose[:u]))
				d.Restart([]byte{byte(c)})
				kept := bytes.Clone(loose[:c%(u+1)])
				if c >= 128 && len(kept) > 0 {
					kept[len(kept)-1] = 255 - kept[len(kept)-1]
				}
				if b, e := d.Read("a"); e != api.OK || string(b) != synced+string(kept) {
					t.Fatalf("choice %d of %d: %v, %d", c, u, b, e)
				}
			}
		}
	}
}

// P5.4: choices are taken by rising names, by files with bytes that aren't synced alone; 0, when they are used up; those left over are nothing.
func TestRestartOfSeveral(t *testing.T) {
	for _, c := range []struct {
		choices []byte
		want    []string
	}{
		{nil, []string{"a=", "b=firm", "c=ab", "d=", "e=12", "f="}},
		{[]byte{1}, []string{"a=x", "b=firm", "c=ab", "d=", "e=12", "f="}},
		{[]byte{2, 2}, []string{"a=xy", "b=firm", "c=abcd", "d=", "e=12", "f="}},
		{[]byte{3, 0, 1}, []string{"a=", "b=firm", "c=ab", "d=", "e=123", "f="}},
		{[]byte{127, 128, 1, 2}, []string{"a=x", "b=firm", "c=abc\x9b", "d=", "e=123", "f=lo"}},
		{[]byte{255, 129, 131, 7, 1, 1, 1}, []string{"a=", "b=firm", "c=ab", "d=", "e=12\xcc", "f=lo"}},
		{[]byte{130, 130, 129}, []string{"a=\x87", "b=firm", "c=ab\x9c", "d=", "e=12\xcc", "f="}},
		{[]byte{0, 0, 0, 149}, []string{"a=", "b=firm", "c=ab", "d=", "e=12", "f=loo\x8c"}},
	} {
		for _, down := range []bool{false, true} {
			d := New()
			add(t, d, "f", "", "loos")
			add(t, d, "e", "12", "3")
			add(t, d, "d", "", "")
			add(t, d, "c", "ab", "cd")
			add(t, d, "b", "firm", "")
			add(t, d, "a", "", "xy")
			if down {
				d.SetFuse(0)
				want(t, "Sync", d.Sync("a"), api.ErrLost)
			}
			d.Restart(c.choices)
			if d.Down() {
				t.Error("down")
			}
			holds(t, d, "Restart", c.want...)
			d.Restart([]byte{1, 1, 1, 1})
			holds(t, d, "all bytes are synced then", c.want...)
		}
	}
}

// P5.4: behind a Restart there is no fuse, whatever there was.
func TestRestartTakesTheFuse(t *testing.T) {
	for fuse := -1; fuse < 3; fuse++ {
		d := with(t, "x", "")
		d.SetFuse(fuse)
		if fuse == 1 {
			must(t, d.Sync("a"))
			want(t, "Sync", d.Sync("a"), api.ErrLost)
			d.SetFuse(2) // a fuse of a disk that is down goes too
		}
		d.Restart(nil)
		if got := left(d); got != -1 || d.Down() {
			t.Errorf("a fuse of %d: %d left", fuse, got)
		}
	}
}

// R5: bytes, names and choices that are handed in are left as they are, their spare room too, and aren't kept.
func TestHandedIn(t *testing.T) {
	d := New()
	room := []byte("xyz spare room")
	must(t, d.Append("a", room[:3]))
	must(t, d.Append("a", room[:1]))
	if string(room) != "xyz spare room" {
		t.Errorf("%q", room)
	}
	copy(room, "??????????????")
	holds(t, d, "not kept", "a=xyzx")
	must(t, d.Sync("a"))
	must(t, d.Append("a", room[:9]))
	choices := []byte{131, 1, 2, 3}
	d.Restart(choices[:2])
	if !bytes.Equal(choices, []byte{131, 1, 2, 3}) || string(room) != "??????????????" {
		t.Error(choices, room)
	}
	holds(t, d, "torn", "a=xyzx\xc0")
}

// R5: what is read and listed is new memory, its spare room too.
func TestAnswersAreNew(t *testing.T) {
	d := New()
	must(t, d.Append("a", []byte("xyzw")))
	must(t, d.Truncate("a", 3))
	must(t, d.Append("b", nil))
	one, _ := d.Read("a")
	two, _ := d.Read("a")
	spoil := one[:cap(one)]
	for i := range spoil {
		spoil[i] = '?'
	}
	if string(two) != "xyz" {
		t.Errorf("%q", two)
	}
	holds(t, d, "Read", "a=xyz", "b=")
	must(t, d.Append("a", []byte("1")))
	if string(one) != "???" || string(two) != "xyz" {
		t.Error("an append is seen in what was read")
	}
	names, again := d.List(), d.List()
	names[0], names[1] = "?", "?"
	_ = append(names[:0], "??")
	if !slices.Equal(again, []string{"a", "b"}) || !slices.Equal(d.List(), []string{"a", "b"}) {
		t.Errorf("%q", again)
	}
	d.Restart([]byte{130})
	if string(two) != "xyz" {
		t.Error("a crash is seen in what was read")
	}
}

// P5.5: a nil disk is down, whatever is called.
func TestNil(t *testing.T) {
	var d *Disk
	d.Restart([]byte{1})
	d.Restart(nil)
	for _, n := range []int{-1, 0, 1} {
		d.SetFuse(n)
	}
	if !d.Down() || len(d.List()) != 0 {
		t.Error("up")
	}
	b, e := d.Read("a")
	if len(b) > 0 {
		t.Error(b)
	}
	want(t, "Read", e, api.ErrLost)
	for _, name := range []string{"a", "", "A"} {
		want(t, "Append", d.Append(name, make([]byte, mebibyte+1)), api.ErrLost)
		want(t, "Sync", d.Sync(name), api.ErrLost)
		want(t, "Rename", d.Rename(name, name), api.ErrLost)
		want(t, "Remove", d.Remove(name), api.ErrLost)
		want(t, "Truncate", d.Truncate(name, -1), api.ErrLost)
	}
}

// P5.5: the zero disk is as New's, whichever call comes first.
func TestZero(t *testing.T) {
	calls := []step{
		appendStep("a", []byte("x")), appendStep("A", nil), syncStep("a"), renameStep("a", "b"), removeStep("a"),
		truncateStep("a", 0), fuseStep(0), fuseStep(1), fuseStep(-1), restartStep(), restartStep(1),
	}
	for _, first := range calls {
		for _, second := range calls {
			var d Disk
			m := &model{fuse: -1}
			agree(t, &d, m, "zero")
			told := follow(t, &d, m, "zero", first)
			told = follow(t, &d, m, told, second)
			told = follow(t, &d, m, told, appendStep("a", []byte("yz")))
			follow(t, &d, m, told, restartStep(2))
		}
	}
}
