package journal_test

import (
	"slices"
	"strconv"
	"strings"
	"testing"

	"drover/api"
	"drover/disk"
	"drover/journal"
)

// filled appends records of size bytes till the log is full, and answers all that it holds.
func filled(t *testing.T, l *journal.Log, size int, all []string) []string {
	t.Helper()
	for range maxFile {
		next := l.Next()
		s := some(size, int(next))
		n, e := l.Append([]byte(s))
		if e == api.ErrFull {
			if n != 0 {
				t.Errorf("%d beside ErrFull", n)
			}
			return all
		}
		if e != api.OK || n != next {
			t.Fatalf("Append: %d, %d", n, e)
		}
		all = append(all, s)
	}
	t.Fatal("it is never full")
	return nil
}

// P6.3, P6.5: a log whose file would be too long is full, which changes nothing: what is shorter still fits, and what is trimmed makes room.
func TestFullFile(t *testing.T) {
	d := disk.New()
	l := opened(t, d)
	all := filled(t, l, maxRecord, nil)
	if len(all) < 250 {
		t.Errorf("full of %d records", len(all))
	}
	holds(t, "full", l, 0, all...)
	want(t, "Sync", l.Sync(), api.OK)
	holds(t, "full, opened", opened(t, d), 0, all...)
	for _, size := range []int{1000, 100, 10, 1, 0} {
		all = filled(t, l, size, all)
	}
	holds(t, "fuller", l, 0, all...)
	if n, e := l.Append(make([]byte, maxRecord+1)); n != 0 || e != api.ErrLong {
		t.Error("too long goes first", n, e)
	}
	want(t, "Trim(0)", l.Trim(0), api.OK)
	want(t, "Trim beyond", l.Trim(int64(len(all)+1)), api.ErrRange)
	d.Restart(nil)
	l = opened(t, d)
	holds(t, "full, behind a crash", l, 0, all...)
	if n, e := l.Append(nil); n != 0 || e != api.ErrFull {
		t.Error("still full", n, e)
	}
	want(t, "Trim(1)", l.Trim(1), api.OK)
	if n, e := l.Append([]byte(all[0])); n != int64(len(all)) || e != api.OK {
		t.Error("what was forgotten makes room for as much", n, e)
	}
	all = append(all, all[0])
	holds(t, "trimmed", l, 1, all[1:]...)
	d.Restart([]byte{0})
	l = opened(t, d)
	holds(t, "trimmed, behind a crash", l, 1, all[1:len(all)-1]...)
}

// P6.3, P6.6: a log that is full of the shortest records is opened in good time, and trimmed.
func TestFullOfShortOnes(t *testing.T) {
	d := disk.New()
	l := opened(t, d)
	all := filled(t, l, 0, nil)
	holds(t, "opened", opened(t, d), 0, all...)
	want(t, "Trim", l.Trim(int64(len(all)-2)), api.OK)
	holds(t, "trimmed", opened(t, d), int64(len(all)-2), "", "")
}

// P6.6: records go on for long, as those that are forgotten take no room; a crash now and then changes nothing of that.
func TestRunsOn(t *testing.T) {
	for _, every := range []int{1, 7, 100, 900} {
		d := disk.New()
		l := opened(t, d)
		var kept []string
		for i := range 5000 {
			s := some(1000, i)
			if n, e := l.Append([]byte(s)); n != int64(i) || e != api.OK {
				t.Fatalf("every %d: Append %d: %d, %d", every, i, n, e)
			}
			kept = append(kept, s)
			if i%every == every-1 {
				kept = kept[len(kept)-len(kept)%100/30:]
				want(t, "Trim", l.Trim(int64(i+1-len(kept))), api.OK)
			}
			if i%1000 == 999 {
				want(t, "Sync", l.Sync(), api.OK)
				d.Restart(nil)
				l = opened(t, d)
				holds(t, "behind a crash", l, int64(i+1-len(kept)), kept...)
			}
		}
	}
}

// P6.6: Trims that crash, and crashes while the log is opened behind them, leave nothing that fills the disk.
func TestCrashesLeaveNothing(t *testing.T) {
	d := disk.New()
	l := opened(t, d)
	files := len(d.List())
	for i := range 2000 {
		big := some(4000, i)
		appended(t, l, big, big)
		d.SetFuse(i % 7)
		e := l.Trim(l.Next() - 1)
		if e == api.OK {
			d.SetFuse(-1)
			continue
		}
		want(t, "Trim", e, api.ErrLost)
		for fuse := range i % 5 {
			d.Restart([]byte{byte(i), byte(i * 3)})
			d.SetFuse(fuse)
			journal.Open(d)
		}
		d.Restart([]byte{byte(i * 5), byte(i)})
		l = opened(t, d)
		if now := len(d.List()); now > files {
			t.Fatalf("%d files, and were %d", now, files)
		}
		want(t, "Trim", l.Trim(l.Next()), api.OK)
	}
}

// crowd puts n files of other names on a disk, each with bytes that are synced and one that isn't.
func crowd(t *testing.T, d *disk.Disk, n int) {
	t.Helper()
	for i := range n {
		name := "f" + strconv.Itoa(i)
		d.Append(name, []byte("synced"))
		d.Sync(name)
		want(t, "crowd", d.Append(name, []byte("-")), api.OK)
	}
}

// crowded: those files are as they were.
func crowded(t *testing.T, d *disk.Disk, n int, tail string) {
	t.Helper()
	found := 0
	for _, name := range d.List() {
		if strings.HasPrefix(name, "log") {
			continue
		}
		found++
		if b, e := d.Read(name); string(b) != "synced"+tail || e != api.OK {
			t.Errorf("%s: %q, %d", name, b, e)
		}
	}
	if found != n {
		t.Errorf("%d files of others, want %d", found, n)
	}
}

// P6.1, P6.5: on a disk with MaxFiles files of others there is no room for a log, which some call says, and changes nothing; with one file less there is.
func TestOpenOnAFullDisk(t *testing.T) {
	d := disk.New()
	crowd(t, d, api.MaxFiles)
	for range 2 {
		l, e := journal.Open(d)
		want(t, "Open", e, api.ErrFull)
		if l != nil {
			t.Error("a log beside ErrFull")
		}
		crowded(t, d, api.MaxFiles, "-")
	}
	want(t, "Remove", d.Remove("f7"), api.OK)
	l := opened(t, d)
	appended(t, l, "a")
	holds(t, "room for one", opened(t, d), 0, "a")
	crowded(t, d, api.MaxFiles-1, "-")
}

// P6.3, P6.5: on a disk with MaxFiles files, the log's among them, records are appended, synced and read; a Trim that finds no room changes nothing, and is done when there is some.
func TestOnAFullDisk(t *testing.T) {
	d := disk.New()
	crowd(t, d, api.MaxFiles-1)
	l := opened(t, d)
	if len(d.List()) != api.MaxFiles {
		t.Fatal("not full")
	}
	appended(t, l, "a", "b", "c")
	want(t, "Sync", l.Sync(), api.OK)
	want(t, "Trim(0)", l.Trim(0), api.OK)
	for n := int64(1); n < 4; n++ {
		want(t, "Trim beyond", l.Trim(4), api.ErrRange)
		want(t, "Trim", l.Trim(n), api.ErrFull)
		holds(t, "full", l, 0, "a", "b", "c")
		holds(t, "full, opened", opened(t, d), 0, "a", "b", "c")
	}
	appended(t, l, "d")
	want(t, "Sync", l.Sync(), api.OK)
	crowded(t, d, api.MaxFiles-1, "-")
	d.Restart(nil)
	crowded(t, d, api.MaxFiles-1, "")
	l = opened(t, d)
	holds(t, "behind a crash", l, 0, "a", "b", "c", "d")
	want(t, "Remove", d.Remove("f0"), api.OK)
	want(t, "Trim", l.Trim(3), api.OK)
	holds(t, "trimmed", l, 3, "d")
	d.Restart(nil)
	holds(t, "trimmed, behind a crash", opened(t, d), 3, "d")
	crowded(t, d, api.MaxFiles-2, "")
}

// P6.1: the log's files begin with log, at whichever operation it is looked at; those of other names stay as they are, and aren't synced.
func TestOthers(t *testing.T) {
	names := []string{".log", "0log", "a", "book", "k", "l", "lo", "lo.g", "m", "new", "olog", "snap", "xlog.new", "z"}
	others := func() *disk.Disk {
		d := disk.New()
		for _, name := range names {
			d.Append(name, []byte("s"))
			d.Sync(name)
			d.Append(name, []byte("-"))
		}
		return d
	}
	same := func(d *disk.Disk, tail string) {
		t.Helper()
		var found []string
		for _, name := range d.List() {
			if strings.HasPrefix(name, "log") {
				continue
			}
			found = append(found, name)
			if b, _ := d.Read(name); string(b) != "s"+tail {
				t.Errorf("%s: %q", name, b)
			}
		}
		if !slices.Equal(found, names) {
			t.Errorf("%q", found)
		}
	}
	d := others()
	for fuse := 0; fuse < 40; fuse++ {
		d = others()
		d.SetFuse(fuse)
		l, e := journal.Open(d)
		if e == api.OK {
			l.Append([]byte("a"))
			l.Append([]byte("b"))
			l.Sync()
			l.Trim(1)
			l.Append([]byte("c"))
			l.Trim(3)
			l.Trim(3)
		}
		if !d.Down() {
			same(d, "-")
		}
		d.Restart(nil)
		same(d, "")
		opened(t, d)
		same(d, "")
	}
	l := opened(t, d)
	holds(t, "beside others", l, 3)
	if len(d.List()) == len(names) {
		t.Error("the log has no file")
	}
}

// R1: whatever bytes stand in the log's files, Open ends, and what it answers is a log that goes on, the same behind a crash.
func TestForeignBytes(t *testing.T) {
	d := disk.New()
	l := opened(t, d)
	appended(t, l, "a", "bb")
	want(t, "Trim", l.Trim(1), api.OK)
	appended(t, l, "")
	for _, name := range d.List() {
		whole, _ := d.Read(name)
		for i := range whole {
			turned := slices.Clone(whole)
			turned[i] ^= 1 << (i % 8)
			// Of a log's bytes, turned or cut, with some ahead of them and behind.
			for _, b := range [][]byte{whole[:i], whole[i:], turned, append(slices.Clone(whole), turned...), make([]byte, i), []byte(some(i*100, i))} {
				d = disk.New()
				want(t, "Append", d.Append(name, b), api.OK)
				l = opened(t, d)
				first, next := l.First(), l.Next()
				appended(t, l, "x", "y")
				want(t, "Trim", l.Trim(next), api.OK)
				d.Restart(nil)
				holds(t, "on", opened(t, d), next, "x", "y")
				if first != 0 && first != 1 {
					t.Errorf("First is %d, which nobody said", first)
				}
			}
		}
	}
}
