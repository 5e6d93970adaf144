package journal_test

import (
	"math"
	"slices"
	"strconv"
	"strings"
	"testing"

	"drover/api"
	"drover/disk"
	"drover/journal"
)

const (
	maxRecord = api.MaxBlob - 16
	maxFile   = 1 << 20
)

// opened is the log of a disk.
func opened(t *testing.T, d *disk.Disk) *journal.Log {
	t.Helper()
	l, e := journal.Open(d)
	if e != api.OK || l == nil {
		t.Fatalf("Open: %d", e)
	}
	return l
}

func want(t *testing.T, told string, got, want api.Errno) {
	t.Helper()
	if got != want {
		t.Errorf("%s: %d, want %d", told, got, want)
	}
}

// appended has each text appended.
func appended(t *testing.T, l *journal.Log, texts ...string) {
	t.Helper()
	for _, s := range texts {
		next := l.Next()
		if n, e := l.Append([]byte(s)); n != next || e != api.OK || l.Next() != next+1 {
			t.Fatalf("Append of %d bytes: %d, %d; Next is %d, and was %d", len(s), n, e, l.Next(), next)
		}
	}
}

// holds: the log's records are these, from first on, and there are no others.
func holds(t *testing.T, told string, l *journal.Log, first int64, records ...string) {
	t.Helper()
	next := first + int64(len(records))
	if l.First() != first || l.Next() != next {
		t.Errorf("%s: from %d to below %d, want %d and %d", told, l.First(), l.Next(), first, next)
		return
	}
	for i, s := range records {
		if b, e := l.Get(first + int64(i)); string(b) != s || e != api.OK {
			t.Errorf("%s: Get(%d): %d bytes, %d, want %d bytes", told, first+int64(i), len(b), e, len(s))
		}
	}
	for _, n := range []int64{math.MinInt64, -1, first - 1, next, next + 1, math.MaxInt64} {
		if n >= first && n < next {
			continue
		}
		if b, e := l.Get(n); len(b) != 0 || e != api.ErrRange {
			t.Errorf("%s: Get(%d): %q, %d, want ErrRange", told, n, b, e)
		}
	}
}

// overNow: the log is over, whatever is asked of it, and the disk brings it back no more.
func overNow(t *testing.T, told string, l *journal.Log) {
	t.Helper()
	for _, b := range [][]byte{nil, []byte("x"), make([]byte, maxRecord), make([]byte, maxRecord+1)} {
		if n, e := l.Append(b); n != 0 || e != api.ErrLost {
			t.Errorf("%s: Append of %d bytes: %d, %d, want ErrLost", told, len(b), n, e)
		}
	}
	want(t, told+": Sync", l.Sync(), api.ErrLost)
	for _, n := range []int64{math.MinInt64, -1, l.First() - 1, l.First(), l.Next(), l.Next() + 1, math.MaxInt64} {
		want(t, told+": Trim("+strconv.FormatInt(n, 10)+")", l.Trim(n), api.ErrLost)
	}
}

// some are n bytes that are others for each number.
func some(n, number int) string {
	b := make([]byte, n)
	for i := range b {
		b[i] = byte(i*7 + i>>8 + number*31 + number>>8)
	}
	return string(b)
}

// P6.1 to P6.4: the chapter's examples.
func TestExamples(t *testing.T) {
	for c := range 256 {
		d := disk.New()
		l := opened(t, d)
		appended(t, l, "a", "b")
		want(t, "Sync", l.Sync(), api.OK)
		appended(t, l, "c")
		d.Restart([]byte{byte(c)})
		l = opened(t, d)
		if l.Next() == 3 {
			holds(t, "c is there", l, 0, "a", "b", "c")
		} else {
			holds(t, "c is none", l, 0, "a", "b")
		}
		rest := []string{"b", "c"}[:l.Next()-1]
		want(t, "Trim(1)", l.Trim(1), api.OK)
		holds(t, "trimmed", l, 1, rest...)
		holds(t, "trimmed, opened", opened(t, d), 1, rest...)
	}
}

// P6.1: of a disk without a log First and Next are 0, of files of other names too; opened again it is so again.
func TestOpenWithoutOne(t *testing.T) {
	for _, others := range [][]string{nil, {"a"}, {"lo", "l", "xlog", "lo.g", ".log", "k", "m", "snap", "0log"}} {
		d := disk.New()
		for _, name := range others {
			d.Append(name, []byte("log"))
		}
		for range 3 {
			holds(t, "none", opened(t, d), 0)
		}
		d.Restart(nil)
		holds(t, "none behind a crash", opened(t, d), 0)
	}
	var zero disk.Disk
	l := opened(t, &zero)
	appended(t, l, "a")
	holds(t, "on the zero disk", opened(t, &zero), 0, "a")
}

// P6.1: ErrLost of a nil disk, and of one that is down; the disk that comes up has its log again.
func TestOpenLost(t *testing.T) {
	if l, e := journal.Open(nil); l != nil || e != api.ErrLost {
		t.Error("of nil", l, e)
	}
	d := disk.New()
	appended(t, opened(t, d), "a", "b")
	want(t, "Sync", opened(t, d).Sync(), api.OK)
	d.SetFuse(0)
	d.Append("other", nil)
	for range 2 {
		if l, e := journal.Open(d); l != nil || e != api.ErrLost {
			t.Error("of a disk that is down", l, e)
		}
	}
	d.Restart(nil)
	holds(t, "up again", opened(t, d), 0, "a", "b")
}

// P6.1: ErrLost, if an operation of Open is the one at which the disk goes down: nothing is answered beside it, and the log is there behind it.
func TestOpenAtAFuse(t *testing.T) {
	for fuse := range 20 {
		d := disk.New()
		d.SetFuse(fuse)
		l, e := journal.Open(d)
		if d.Down() != (e == api.ErrLost) || (l == nil) != (e != api.OK) {
			t.Errorf("fuse %d: %v, %d, down %v", fuse, l, e, d.Down())
		}
		d.Restart([]byte{byte(fuse * 5)})
		holds(t, "behind it", opened(t, d), 0)
	}
}

// P6.2: Get at, below and beyond First and Next, trimmed and not.
func TestGet(t *testing.T) {
	d := disk.New()
	l := opened(t, d)
	holds(t, "none", l, 0)
	appended(t, l, "a", "", "c", "dd", "")
	holds(t, "five", l, 0, "a", "", "c", "dd", "")
	want(t, "Trim(2)", l.Trim(2), api.OK)
	holds(t, "three", l, 2, "c", "dd", "")
	appended(t, l, "f")
	holds(t, "four", l, 2, "c", "dd", "", "f")
	want(t, "Trim(6)", l.Trim(6), api.OK)
	holds(t, "none from 6 on", l, 6)
	appended(t, l, "g")
	holds(t, "one", l, 6, "g")
	holds(t, "one, opened", opened(t, d), 6, "g")
}

// P6.3: records of all lengths, those of no bytes and of MaxBlob - 16 among them; one byte more is too long, and changes nothing.
func TestAppendLengths(t *testing.T) {
	d := disk.New()
	l := opened(t, d)
	var all []string
	for i, n := range []int{0, 1, 2, 7, 8, 9, 15, 16, 17, 127, 128, 255, 256, 257, 4072, 4079, maxRecord, 0, maxRecord, 0} {
		all = append(all, some(n, i))
		appended(t, l, some(n, i))
	}
	appended(t, l, string(make([]byte, maxRecord)), strings.Repeat("\xff", maxRecord))
	all = append(all, string(make([]byte, maxRecord)), strings.Repeat("\xff", maxRecord))
	for _, n := range []int{maxRecord + 1, maxRecord + 2, api.MaxBlob, api.MaxBlob + 1, maxFile, maxFile + 1} {
		if number, e := l.Append(make([]byte, n)); number != 0 || e != api.ErrLong {
			t.Errorf("Append of %d bytes: %d, %d, want ErrLong", n, number, e)
		}
	}
	holds(t, "appended", l, 0, all...)
	holds(t, "opened", opened(t, d), 0, all...)
	if n, e := l.Append(nil); n != int64(len(all)) || e != api.OK {
		t.Error("Append(nil)", n, e)
	}
	all = append(all, "")
	holds(t, "opened again", opened(t, d), 0, all...)
	want(t, "Sync", l.Sync(), api.OK)
	d.Restart(nil)
	holds(t, "behind a crash", opened(t, d), 0, all...)
}

// P6.3, P6.4: records that look like a log's own bytes are records.
func TestRecordsLikeFrames(t *testing.T) {
	d := disk.New()
	appended(t, opened(t, d), "a", "b", "")
	var all []string
	for _, name := range d.List() {
		b, _ := d.Read(name)
		for i := range b {
			all = append(all, string(b[i:]), string(b[:i]))
		}
		all = append(all, string(b)+string(b))
	}
	d = disk.New()
	l := opened(t, d)
	appended(t, l, all...)
	holds(t, "opened", opened(t, d), 0, all...)
	want(t, "Trim", l.Trim(9), api.OK)
	d.Restart(nil)
	holds(t, "trimmed", opened(t, d), 9, all[9:]...)
}

// P6.3: what is synced is there behind whatever crash; so is what was there ahead of a Sync that had nothing to do.
func TestSync(t *testing.T) {
	for c := range 256 {
		d := disk.New()
		l := opened(t, d)
		want(t, "Sync of none", l.Sync(), api.OK)
		appended(t, l, "a", "", "b")
		want(t, "Sync", l.Sync(), api.OK)
		want(t, "Sync again", l.Sync(), api.OK)
		holds(t, "synced", l, 0, "a", "", "b")
		d.Restart([]byte{byte(c), byte(c)})
		holds(t, "behind a crash", opened(t, d), 0, "a", "", "b")
	}
}

// P6.3: Trim at, below and beyond First and Next: out of range nothing has changed.
func TestTrimRange(t *testing.T) {
	records := []string{"a", "b", "", "d"}
	for first := range 5 {
		for n := range 5 {
			d := disk.New()
			l := opened(t, d)
			appended(t, l, records...)
			want(t, "Trim to First", l.Trim(int64(first)), api.OK)
			for _, bad := range []int64{math.MinInt64, -1, int64(first) - 1, 5, 6, math.MaxInt64} {
				want(t, "Trim("+strconv.FormatInt(bad, 10)+")", l.Trim(bad), api.ErrRange)
			}
			holds(t, "not trimmed", l, int64(first), records[first:]...)
			holds(t, "not trimmed, opened", opened(t, d), int64(first), records[first:]...)
			if n < first {
				continue
			}
			want(t, "Trim", l.Trim(int64(n)), api.OK)
			holds(t, "trimmed", l, int64(n), records[n:]...)
			d.Restart(nil)
			l = opened(t, d)
			holds(t, "trimmed, behind a crash", l, int64(n), records[n:]...)
			appended(t, l, "e")
			holds(t, "and one more", l, int64(n), append(slices.Clone(records[n:]), "e")...)
		}
	}
	l := opened(t, disk.New())
	for _, bad := range []int64{math.MinInt64, -1, 1, math.MaxInt64} {
		want(t, "Trim of none", l.Trim(bad), api.ErrRange)
	}
	want(t, "Trim(0) of none", l.Trim(0), api.OK)
	holds(t, "of none", l, 0)
}

// P6.3: a Trim syncs all records, those that stay and were not synced: also one that forgets nothing.
func TestTrimSyncs(t *testing.T) {
	for n := range 4 {
		for c := range 256 {
			d := disk.New()
			l := opened(t, d)
			appended(t, l, "a", "b")
			want(t, "Sync", l.Sync(), api.OK)
			appended(t, l, "c")
			want(t, "Trim", l.Trim(int64(n)), api.OK)
			d.Restart([]byte{byte(c), byte(c)})
			holds(t, "behind a crash", opened(t, d), int64(n), []string{"a", "b", "c"}[n:]...)
		}
	}
}

// P6.5: what Open answers is synced, though nobody has synced it ahead.
func TestOpenSyncs(t *testing.T) {
	for c := range 256 {
		d := disk.New()
		l := opened(t, d)
		appended(t, l, "a", "", "c")
		holds(t, "not synced", opened(t, d), 0, "a", "", "c")
		d.Restart([]byte{byte(c), byte(c)})
		holds(t, "behind a crash", opened(t, d), 0, "a", "", "c")
		d.Restart([]byte{byte(c), byte(c)})
		holds(t, "behind another", opened(t, d), 0, "a", "", "c")
	}
}

// P6.5: a log beside which the disk is opened goes on.
func TestOpenBeside(t *testing.T) {
	d := disk.New()
	l := opened(t, d)
	var all []string
	for i := range 20 {
		all = append(all, some(i*3, i))
		appended(t, l, all[i])
		holds(t, "beside", opened(t, d), int64(i/5*5), all[i/5*5:]...)
		if i%5 == 4 {
			want(t, "Trim", l.Trim(int64(i+1)), api.OK)
		}
	}
	holds(t, "goes on", l, 20)
}

// P6.5: behind an answer ErrLost, of whichever call, the log is over, and tells what it told ahead of it; a disk that comes up brings it back no more.
func TestOver(t *testing.T) {
	calls := map[string]func(l *journal.Log) api.Errno{
		"Append":        func(l *journal.Log) api.Errno { _, e := l.Append([]byte("x")); return e },
		"Append of 0":   func(l *journal.Log) api.Errno { _, e := l.Append(nil); return e },
		"Sync":          func(l *journal.Log) api.Errno { return l.Sync() },
		"Trim to First": func(l *journal.Log) api.Errno { return l.Trim(1) },
		"Trim":          func(l *journal.Log) api.Errno { return l.Trim(2) },
		"Trim to Next":  func(l *journal.Log) api.Errno { return l.Trim(4) },
	}
	for told, call := range calls {
		for fuse := 0; ; fuse++ {
			d := disk.New()
			l := opened(t, d)
			appended(t, l, "a", "b", "c")
			want(t, "Trim", l.Trim(1), api.OK)
			appended(t, l, "d")
			d.SetFuse(fuse)
			e := call(l)
			if e == api.OK && !d.Down() {
				if fuse == 0 {
					t.Errorf("%s: no operation", told)
				}
				break
			}
			want(t, told, e, api.ErrLost)
			holds(t, told, l, 1, "b", "c", "d")
			overNow(t, told, l)
			d.Restart([]byte{byte(fuse)})
			holds(t, told, l, 1, "b", "c", "d")
			overNow(t, told+", up", l)
			again := opened(t, d)
			appended(t, again, "new")
			overNow(t, told+", opened", l)
			holds(t, told, l, 1, "b", "c", "d")
		}
	}
}

// P6.3, R2: a disk that another has brought down doesn't make the log over: its own questions come first, and then the operation is lost.
func TestDownByAnother(t *testing.T) {
	down := func() *journal.Log {
		d := disk.New()
		l := opened(t, d)
		appended(t, l, "a", "b")
		want(t, "Trim", l.Trim(1), api.OK)
		d.SetFuse(0)
		d.Append("other", nil)
		if n, e := l.Append(make([]byte, maxRecord+1)); n != 0 || e != api.ErrLong {
			t.Error("Append of too much", n, e)
		}
		want(t, "Trim below", l.Trim(0), api.ErrRange)
		want(t, "Trim beyond", l.Trim(3), api.ErrRange)
		holds(t, "down", l, 1, "b")
		return l
	}
	l := down()
	if n, e := l.Append(make([]byte, maxRecord)); n != 0 || e != api.ErrLost {
		t.Error("Append", n, e)
	}
	overNow(t, "Append", l)
	l = down()
	want(t, "Sync", l.Sync(), api.ErrLost)
	overNow(t, "Sync", l)
	for n := int64(1); n < 3; n++ {
		l = down()
		want(t, "Trim", l.Trim(n), api.ErrLost)
		overNow(t, "Trim", l)
	}
	holds(t, "over", l, 1, "b")
}

// P6.6: a nil log is over, and has no records.
func TestNil(t *testing.T) {
	var l *journal.Log
	holds(t, "nil", l, 0)
	if b, e := l.Get(0); len(b) != 0 || e != api.ErrRange {
		t.Error(b, e)
	}
	overNow(t, "nil", l)
	l = &journal.Log{}
	holds(t, "of nothing", l, 0)
	overNow(t, "of nothing", l)
}

// R5: what is handed in is left as it is, its spare room too, and isn't kept; what is got is nobody else's.
func TestMemory(t *testing.T) {
	d := disk.New()
	l := opened(t, d)
	b := []byte("abcdefghijkl")
	if n, e := l.Append(b[2:5]); n != 0 || e != api.OK || string(b) != "abcdefghijkl" {
		t.Error(n, e, string(b))
	}
	copy(b, "------------")
	holds(t, "what was handed in is changed", l, 0, "cde")
	one, _ := l.Get(0)
	two, _ := l.Get(0)
	one = append(one, "more"...)
	copy(one, "xyz")
	if string(two) != "cde" {
		t.Error("what was got twice is one", string(two))
	}
	holds(t, "what was got is changed", l, 0, "cde")
	appended(t, l, "f", "")
	again := opened(t, d)
	got, _ := again.Get(0)
	clear(got)
	_ = append(got, "more"...)
	holds(t, "opened", again, 0, "cde", "f", "")
	holds(t, "beside", l, 0, "cde", "f", "")
	want(t, "Trim", again.Trim(1), api.OK)
	holds(t, "the other one", l, 0, "cde", "f", "")
	empty, _ := again.Get(2)
	_ = append(empty, "more"...)
	holds(t, "trimmed", again, 1, "f", "")
	holds(t, "trimmed, opened", opened(t, d), 1, "f", "")
}

// R7: logs on two disks do not hang on one another.
func TestTwoDisks(t *testing.T) {
	d, other := disk.New(), disk.New()
	l, m := opened(t, d), opened(t, other)
	appended(t, l, "a", "b")
	appended(t, m, "x")
	want(t, "Trim", l.Trim(2), api.OK)
	d.SetFuse(0)
	want(t, "Sync", l.Sync(), api.ErrLost)
	want(t, "Sync of the other", m.Sync(), api.OK)
	appended(t, m, "y")
	holds(t, "the one", l, 2)
	holds(t, "the other", m, 0, "x", "y")
	holds(t, "the other, opened", opened(t, other), 0, "x", "y")
}
