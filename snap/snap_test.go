package snap_test

import (
	"bytes"
	"math"
	"slices"
	"testing"

	"drover/api"
	"drover/disk"
	"drover/snap"
)

const (
	maxNumber = 1 << 62
	maxPieces = 1 << 14
	maxBytes  = 1 << 19
)

func want(t *testing.T, told string, got, want api.Errno) {
	t.Helper()
	if got != want {
		t.Errorf("%s: %d, want %d", told, got, want)
	}
}

// A checkpoint is what Load answers, the error among it.
type checkpoint struct {
	number int64
	pieces []string
	e      api.Errno
}

var none = checkpoint{e: api.ErrNone}

func (c checkpoint) same(o checkpoint) bool {
	return c.number == o.number && c.e == o.e && slices.Equal(c.pieces, o.pieces)
}

func loaded(d *disk.Disk) checkpoint {
	n, pieces, e := snap.Load(d)
	c := checkpoint{number: n, e: e}
	for _, piece := range pieces {
		c.pieces = append(c.pieces, string(piece))
	}
	return c
}

// save has c saved.
func (c checkpoint) save(d *disk.Disk) api.Errno {
	var pieces [][]byte
	for _, s := range c.pieces {
		pieces = append(pieces, []byte(s))
	}
	return snap.Save(d, c.number, pieces...)
}

// saved: c is saved, and is the checkpoint then.
func saved(t *testing.T, d *disk.Disk, c checkpoint) {
	t.Helper()
	want(t, "Save", c.save(d), api.OK)
	holds(t, "saved", d, c)
}

// holds: the disk's checkpoint is c.
func holds(t *testing.T, told string, d *disk.Disk, c checkpoint) {
	t.Helper()
	if got := loaded(d); !got.same(c) {
		t.Errorf("%s: the number %d, %d pieces, %d; want %d, %d pieces, %d", told, got.number, len(got.pieces), got.e, c.number, len(c.pieces), c.e)
	}
}

// keeps: so it is, and is so behind a crash, whatever of it would be torn.
func keeps(t *testing.T, told string, d *disk.Disk, c checkpoint) {
	t.Helper()
	holds(t, told, d, c)
	for _, choices := range [][]byte{nil, {0, 0}, {7, 7}, {255, 255}} {
		d.Restart(choices)
		holds(t, told+", behind a crash", d, c)
	}
}

// some are n bytes that are others for each number.
func some(n, number int) string {
	b := make([]byte, n)
	for i := range b {
		b[i] = byte(i*7 + i>>8 + number*31 + number>>8)
	}
	return string(b)
}

// cut are n bytes in pieces of size bytes, and a shorter one at the end, if there is need of it.
func cut(n, size int) []string {
	var pieces []string
	for n > 0 {
		pieces = append(pieces, some(min(n, size), len(pieces)))
		n -= min(n, size)
	}
	return pieces
}

// P7.1, P7.2, P7.4: the chapter's examples.
func TestExamples(t *testing.T) {
	for c := range 256 {
		d := disk.New()
		holds(t, "a new disk", d, none)
		five := checkpoint{number: 5, pieces: []string{"a", ""}}
		want(t, "Save 5", snap.Save(d, 5, []byte("a"), []byte("")), api.OK)
		holds(t, "saved", d, five)
		d.SetFuse(0)
		want(t, "Save 6", snap.Save(d, 6), api.ErrLost)
		d.Restart([]byte{byte(c)})
		holds(t, "restarted", d, five)
	}
}

// P7.1, P7.2: numbers from 0 to 2^62 are saved and loaded; others are refused, and leave what was there.
func TestNumbers(t *testing.T) {
	d := disk.New()
	for _, n := range []int64{math.MinInt64, -maxNumber, -256, -1, maxNumber + 1, math.MaxInt64} {
		want(t, "Save on a new disk", snap.Save(d, n, []byte("x")), api.ErrRange)
		holds(t, "refused", d, none)
		if len(d.List()) != 0 {
			t.Errorf("%q", d.List())
		}
	}
	numbers := []int64{0, 1, 255, 256, math.MaxInt32, math.MaxInt32 + 1, math.MaxUint32, math.MaxUint32 + 1, 0x123456789abcdef, maxNumber - 1, maxNumber}
	for shift := range 62 {
		numbers = append(numbers, 1<<shift, 1<<shift-1, 0x55<<shift&(maxNumber-1))
	}
	for _, n := range numbers {
		for _, pieces := range [][]string{nil, {"p"}} {
			c := checkpoint{number: n, pieces: pieces}
			saved(t, d, c)
			for _, wrong := range []int64{math.MinInt64, -1, maxNumber + 1, math.MaxInt64} {
				want(t, "Save", snap.Save(d, wrong, []byte("x")), api.ErrRange)
				holds(t, "refused", d, c)
			}
		}
	}
}

// P7.1, P7.2: what pieces there are, and in which order, is what is loaded: none, pieces of no bytes, and each of any size.
func TestPieces(t *testing.T) {
	d := disk.New()
	var all []string
	for size := range 300 {
		all = append(all, some(size, size))
	}
	for i, pieces := range [][]string{
		nil, {""}, {"", ""}, {"", "", ""}, {"a"}, {"a", ""}, {"", "a"}, {"a", "b"}, {"b", "a"}, {"ab"}, {"", "ab"}, {"ab", ""}, {"a", "", "b"},
		{"\x00"}, {"\x00", "\x00\x00"}, {some(16, 1)}, {some(8, 1), some(8, 2)}, all,
		{some(api.MaxBlob-1, 1)}, {some(api.MaxBlob, 2)}, {some(api.MaxBlob, 3), "", some(api.MaxBlob, 3)},
		{string(make([]byte, api.MaxBlob))}, nil,
	} {
		c := checkpoint{number: int64(i), pieces: pieces}
		saved(t, d, c)
		keeps(t, "saved", d, c)
		saved(t, d, c)
		fresh := disk.New()
		saved(t, fresh, c)
	}
}

// P7.1, P7.2: a checkpoint's own bytes, as a piece of another, are bytes as others are.
func TestPiecesOfACheckpoint(t *testing.T) {
	d := disk.New()
	saved(t, d, checkpoint{number: 3, pieces: []string{"x", ""}})
	for range 4 {
		var pieces []string
		for _, name := range d.List() {
			b, _ := d.Read(name)
			pieces = append(pieces, string(b), string(b[1:]), string(b[:len(b)-1]))
		}
		saved(t, d, checkpoint{number: 4, pieces: pieces})
	}
}

// P7.1: a piece of more than MaxBlob bytes, wherever it stands, is ErrLong, and leaves what was there.
func TestLongPiece(t *testing.T) {
	d := disk.New()
	long := make([]byte, api.MaxBlob+1)
	want(t, "on a new disk", snap.Save(d, 0, long), api.ErrLong)
	holds(t, "on a new disk", d, none)
	c := checkpoint{number: 9, pieces: []string{"kept"}}
	saved(t, d, c)
	for _, pieces := range [][][]byte{
		{long}, {nil, long}, {long, nil}, {[]byte("a"), long, []byte("b")}, {long, long}, {make([]byte, maxBytes)}, {make([]byte, 1<<21)},
	} {
		want(t, "Save", snap.Save(d, 10, pieces...), api.ErrLong)
		keeps(t, "refused", d, c)
	}
}

// P7.1: pieces of 2^19 bytes in all are saved; of one more they are too many, and leave what was there.
func TestBytesInAll(t *testing.T) {
	d := disk.New()
	c := checkpoint{number: 1, pieces: []string{"kept"}}
	saved(t, d, c)
	for _, size := range []int{32, 33, 1000, api.MaxBlob - 1, api.MaxBlob} {
		for _, more := range [][]string{{"1"}, {"", "1"}, {some(api.MaxBlob, 1)}} {
			over := checkpoint{number: 2, pieces: append(cut(maxBytes, size), more...)}
			if len(over.pieces) > maxPieces {
				over.pieces = slices.Insert(cut(maxBytes-size, size), 0, some(size+1, 5))
			}
			want(t, "Save", over.save(d), api.ErrFull)
			keeps(t, "refused", d, c)
			over.pieces = slices.Insert(over.pieces, 0, over.pieces[len(over.pieces)-1])[:len(over.pieces)]
			want(t, "Save, the last one ahead", over.save(d), api.ErrFull)
			holds(t, "refused", d, c)
		}
		for _, bytes := range []int{maxBytes, maxBytes - 1} {
			c = checkpoint{number: int64(size), pieces: cut(bytes, size)}
			saved(t, d, c)
			keeps(t, "as much as may be", d, c)
		}
	}
	c.pieces = append(cut(maxBytes, api.MaxBlob), "", "")
	saved(t, d, c)
	saved(t, d, checkpoint{number: 1})
}

// P7.1: 2^14 pieces are saved, of no bytes and of all that a checkpoint has; one more is too many, and leaves what was there.
func TestNumberOfPieces(t *testing.T) {
	d := disk.New()
	c := checkpoint{number: 1, pieces: []string{"kept"}}
	saved(t, d, c)
	for _, size := range []int{0, 1, 31, 32} {
		many := make([]string, maxPieces)
		for i := range many {
			many[i] = some(size, i)
		}
		want(t, "Save", checkpoint{number: 2, pieces: append(slices.Clone(many), "")}.save(d), api.ErrFull)
		keeps(t, "refused", d, c)
		c = checkpoint{number: maxNumber, pieces: many}
		saved(t, d, c)
		keeps(t, "as many as may be", d, c)
		saved(t, d, checkpoint{number: 3, pieces: many[1:]})
		saved(t, d, c)
	}
	want(t, "Save of many more", snap.Save(d, 1, make([][]byte, 1<<20)...), api.ErrFull)
	holds(t, "refused", d, c)
}

// P7.1, R2: where several errors of Save apply, the one that is named first is told.
func TestSaveErrorsInOrder(t *testing.T) {
	long := []byte(some(api.MaxBlob+1, 0))
	many := make([][]byte, maxPieces+1)
	tooMany := append(slices.Clone(many), long)
	var heavy [][]byte
	for _, s := range cut(maxBytes, api.MaxBlob) {
		heavy = append(heavy, []byte(s))
	}
	heavy = append(heavy, []byte("1"))
	tooHeavy := append(slices.Clone(heavy), long)
	down := disk.New()
	down.SetFuse(0)
	down.Append("a", nil)
	fused := func() *disk.Disk {
		d := disk.New()
		d.SetFuse(0)
		return d
	}
	full := disk.New()
	crowd(t, full, api.MaxFiles)
	both := disk.New()
	crowd(t, both, api.MaxFiles)
	both.SetFuse(0)
	for _, x := range []struct {
		told   string
		d      *disk.Disk
		n      int64
		pieces [][]byte
		e      api.Errno
	}{
		{"all of them, nil", nil, -1, tooMany, api.ErrLost},
		{"all of them, down", down, -1, tooMany, api.ErrLost},
		{"none but nil", nil, 0, nil, api.ErrLost},
		{"none but down", down, 0, nil, api.ErrLost},
		{"nil and number", nil, -1, nil, api.ErrLost},
		{"down and long", down, 0, [][]byte{long}, api.ErrLost},
		{"down and many", down, 0, many, api.ErrLost},
		{"number, long, many", disk.New(), -1, tooMany, api.ErrRange},
		{"number, long, bytes", disk.New(), maxNumber + 1, tooHeavy, api.ErrRange},
		{"number, many", disk.New(), -1, many, api.ErrRange},
		{"number, fuse", fused(), -1, nil, api.ErrRange},
		{"number, full", full, -1, nil, api.ErrRange},
		{"long, many", disk.New(), 0, tooMany, api.ErrLong},
		{"long ahead, many", disk.New(), 0, append([][]byte{long}, many...), api.ErrLong},
		{"long, bytes", disk.New(), 0, tooHeavy, api.ErrLong},
		{"long, fuse", fused(), 0, [][]byte{long}, api.ErrLong},
		{"long, full", full, 0, [][]byte{long}, api.ErrLong},
		{"many, fuse", fused(), 0, many, api.ErrFull},
		{"bytes, fuse", fused(), 0, heavy, api.ErrFull},
		{"many, full", full, 0, many, api.ErrFull},
		{"many and bytes", disk.New(), 0, append(slices.Clone(heavy), many...), api.ErrFull},
		{"fuse", fused(), 0, nil, api.ErrLost},
		{"full", full, 0, nil, api.ErrFull},
		{"full, fuse", both, 0, nil, api.ErrFull},
	} {
		want(t, x.told, snap.Save(x.d, x.n, x.pieces...), x.e)
		if isDown := x.d.Down(); isDown != (x.e == api.ErrLost) {
			t.Errorf("%s: down %v", x.told, isDown)
		}
	}
}

// P7.1 to P7.3: of a nil disk, and of one that is down, each call answers ErrLost and nothing else; the disk that comes up has its checkpoint, and what was left beside it.
func TestLost(t *testing.T) {
	lost := checkpoint{e: api.ErrLost}
	holds(t, "of nil", nil, lost)
	want(t, "Save on nil", snap.Save(nil, 1, []byte("a")), api.ErrLost)
	want(t, "Clean of nil", snap.Clean(nil), api.ErrLost)
	d := disk.New()
	c := checkpoint{number: 7, pieces: []string{"x"}}
	saved(t, d, c)
	d.Append("snap.z", []byte("z"))
	d.Sync("snap.z")
	files := d.List()
	d.SetFuse(0)
	d.Append("a", nil)
	for range 2 {
		holds(t, "down", d, lost)
		want(t, "Save", snap.Save(d, 8), api.ErrLost)
		want(t, "Clean", snap.Clean(d), api.ErrLost)
	}
	d.Restart(nil)
	holds(t, "up", d, c)
	if !slices.Equal(d.List(), files) {
		t.Errorf("%q, and were %q", d.List(), files)
	}
}

// P7.1, P7.2: on a zero disk as on New's.
func TestZeroDisk(t *testing.T) {
	var d disk.Disk
	holds(t, "zero", &d, none)
	want(t, "Clean", snap.Clean(&d), api.OK)
	saved(t, &d, checkpoint{number: 1, pieces: []string{"a"}})
}

// P7.2: Load does no operation: a fuse of 0 holds, whatever is there, and no file is other than it was.
func TestLoadDoesNothing(t *testing.T) {
	for _, c := range []checkpoint{none, {number: 4, pieces: []string{"a", "", "b"}}, {e: api.ErrBad}} {
		d := disk.New()
		switch c.e {
		case api.OK:
			saved(t, d, c)
		case api.ErrBad:
			saved(t, d, checkpoint{})
			d.Append(d.List()[0], []byte("-"))
		}
		d.Append("snap.x", []byte("x"))
		before := contents(d)
		d.SetFuse(0)
		for range 3 {
			holds(t, "fuse", d, c)
		}
		if d.Down() || !slices.Equal(contents(d), before) {
			t.Errorf("down %v: %q, and were %q", d.Down(), contents(d), before)
		}
		// The fuse is still whole.
		d.SetFuse(1)
		loaded(d)
		want(t, "one operation", d.Append("a", nil), api.OK)
		want(t, "another", d.Append("a", nil), api.ErrLost)
	}
}

// P7.2: what isn't synced beside the checkpoint is as it was: Load keeps nothing of it.
func TestLoadSyncsNothing(t *testing.T) {
	d := disk.New()
	saved(t, d, checkpoint{number: 1})
	d.Append("a", []byte("gone"))
	loaded(d)
	d.Restart(nil)
	if b, _ := d.Read("a"); len(b) != 0 {
		t.Errorf("%q", b)
	}
}

// contents are the names and the bytes of all files.
func contents(d *disk.Disk) []string {
	var all []string
	for _, name := range d.List() {
		b, _ := d.Read(name)
		all = append(all, name, string(b))
	}
	return all
}

// P7.1, R5: pieces that are handed in are left as they are, their spare room and the list's too, and aren't kept.
func TestHandedIn(t *testing.T) {
	d := disk.New()
	room := []byte("one-two-spare")
	list := [][]byte{room[:3], room[4:7], room[7:7], nil, []byte("last")}
	before := string(room)
	want(t, "Save", snap.Save(d, 1, list[:3]...), api.OK)
	if string(room) != before || len(list) != 5 || list[3] != nil || string(list[4]) != "last" {
		t.Errorf("%q, %q", room, list)
	}
	for i := range room {
		room[i] = '!'
	}
	clear(list)
	keeps(t, "overwritten", d, checkpoint{number: 1, pieces: []string{"one", "two", ""}})
}

// P7.2, R5: pieces that are loaded are nobody else's: not the disk's, not another answer's, not each other's, nor is the room behind them.
func TestHandedOut(t *testing.T) {
	d := disk.New()
	c := checkpoint{number: 1, pieces: []string{"one", "", "two", some(api.MaxBlob, 3), "three"}}
	saved(t, d, c)
	_, first, _ := snap.Load(d)
	_, second, _ := snap.Load(d)
	for i := range first {
		all := first[i][:cap(first[i])]
		for j := range all {
			all[j] ^= 0xff
		}
		for j := range first {
			if j > i && string(first[j]) != c.pieces[j] {
				t.Errorf("piece %d shares memory with piece %d", j, i)
			}
		}
	}
	clear(first[:cap(first)])
	for i, piece := range second {
		if !bytes.Equal(piece, []byte(c.pieces[i])) {
			t.Errorf("piece %d of another answer: %q", i, piece)
		}
	}
	holds(t, "overwritten", d, c)
}

// R7: two disks have nothing of one another.
func TestTwoDisks(t *testing.T) {
	one, two := disk.New(), disk.New()
	saved(t, one, checkpoint{number: 1, pieces: []string{"one"}})
	holds(t, "two", two, none)
	saved(t, two, checkpoint{number: 2, pieces: []string{"two", "2"}})
	want(t, "Clean", snap.Clean(one), api.OK)
	holds(t, "one", one, checkpoint{number: 1, pieces: []string{"one"}})
	holds(t, "two", two, checkpoint{number: 2, pieces: []string{"two", "2"}})
}
