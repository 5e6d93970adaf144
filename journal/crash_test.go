package journal_test

import (
	"math/rand"
	"testing"

	"drover/api"
	"drover/disk"
	"drover/journal"
)

// A history is what P6.4 and P6.5 say of a log, whatever it is made of.
type history struct {
	records map[int64]string // by their numbers, as they were appended last
	first   int64            // of the latest Trim that was answered OK
	tried   int64            // n of the Trim that was answered ErrLost behind it; that First, if there is none
	synced  int64            // Next, at the latest Sync or Trim that was answered OK, or at Open
	most    int64            // Next is not above it
}

func begun() *history {
	return &history{records: map[int64]string{}}
}

// opened: the log is one that Open may answer; from then on it is what it says.
func (h *history) opened(t *testing.T, told string, l *journal.Log) {
	t.Helper()
	if l.First() != h.first && l.First() != h.tried {
		t.Fatalf("%s: First is %d, want %d or %d", told, l.First(), h.first, h.tried)
	}
	if l.Next() < h.synced || l.Next() > h.most || l.Next() < l.First() {
		t.Fatalf("%s: Next is %d, want %d to %d", told, l.Next(), h.synced, h.most)
	}
	h.same(t, told, l)
	h.first, h.tried, h.synced, h.most = l.First(), l.First(), l.Next(), l.Next()
}

// same: each record is the one that was appended under its number.
func (h *history) same(t *testing.T, told string, l *journal.Log) {
	t.Helper()
	for n := l.First(); n < l.Next(); n++ {
		if b, e := l.Get(n); string(b) != h.records[n] || e != api.OK {
			t.Fatalf("%s: the record %d is %q, %d, want %q", told, n, b, e, h.records[n])
		}
	}
	for _, n := range []int64{-1, l.First() - 1, l.Next(), l.Next() + 1} {
		if b, e := l.Get(n); len(b) > 0 || e != api.ErrRange {
			t.Fatalf("%s: Get(%d): %q, %d", told, n, b, e)
		}
	}
}

// does has a call done, and tells whether the log goes on. What it is: 0 or more, the record of so many bytes is appended; -1, Sync; below that, Trim to that many more than First.
func (h *history) does(t *testing.T, told string, l *journal.Log, what int) bool {
	t.Helper()
	first, next := l.First(), l.Next()
	var e api.Errno
	switch {
	case what >= 0:
		s := some(what, int(next)+len(told))
		var n int64
		n, e = l.Append([]byte(s))
		if e == api.OK && n != next || e != api.OK && n != 0 {
			t.Fatalf("%s: Append: %d, %d", told, n, e)
		}
		h.records[next], h.most = s, next+1
		if e == api.OK {
			next++
		}
	case what == -1:
		e = l.Sync()
	default:
		n := min(first-int64(what)-2, next)
		e = l.Trim(n)
		h.tried = n
		if e == api.OK {
			first = n
			h.first = n
		}
	}
	if what < 0 && e == api.OK {
		h.synced = next
	}
	if l.First() != first || l.Next() != next {
		t.Fatalf("%s: call %d: from %d to below %d, want %d and %d", told, what, l.First(), l.Next(), first, next)
	}
	if e != api.OK && e != api.ErrLost {
		t.Fatalf("%s: call %d: %d", told, what, e)
	}
	return e == api.OK
}

// over: so it is, with what was there.
func (h *history) over(t *testing.T, told string, l *journal.Log) {
	t.Helper()
	h.same(t, told, l)
	first, next := l.First(), l.Next()
	if n, e := l.Append([]byte("over")); n != 0 || e != api.ErrLost || l.Sync() != api.ErrLost || l.Trim(next) != api.ErrLost {
		t.Fatalf("%s: it is not over: %d, %d", told, n, e)
	}
	if l.First() != first || l.Next() != next {
		t.Fatalf("%s: it has changed", told)
	}
}

// recover opens the log behind a crash, with crashes while it is opened at the fuses, till it is; then once more, as nothing may have changed, behind another crash.
func (h *history) recover(t *testing.T, told string, d *disk.Disk, choices []byte, fuses ...int) *journal.Log {
	t.Helper()
	d.Restart(choices)
	for _, fuse := range fuses {
		d.SetFuse(fuse)
		l, e := journal.Open(d)
		if e == api.OK {
			h.opened(t, told+", at a fuse", l)
		} else if e != api.ErrLost || l != nil || !d.Down() {
			t.Fatalf("%s: Open with a fuse of %d: %v, %d", told, fuse, l, e)
		}
		d.Restart(choices)
	}
	l, e := journal.Open(d)
	if e != api.OK {
		t.Fatalf("%s: Open: %d", told, e)
	}
	h.opened(t, told, l)
	d.Restart(choices)
	l, e = journal.Open(d)
	if e != api.OK {
		t.Fatalf("%s: Open again: %d", told, e)
	}
	h.opened(t, told+", again", l)
	return l
}

// run has the calls done with a fuse, and the log opened behind the crash; it tells whether the fuse was long enough for all of them, Open among them.
func run(t *testing.T, calls []int, fuse int, choices []byte, fuses ...int) bool {
	t.Helper()
	d := disk.New()
	h := begun()
	d.SetFuse(fuse)
	l, e := journal.Open(d)
	lasts := e == api.OK
	if lasts {
		h.opened(t, "new", l)
		for _, what := range calls {
			if !h.does(t, "run", l, what) {
				lasts = false
				h.over(t, "lost", l)
				break
			}
		}
	} else if e != api.ErrLost {
		t.Fatalf("Open: %d", e)
	}
	if lasts == d.Down() {
		t.Fatalf("lasts %v, down %v", lasts, d.Down())
	}
	l = h.recover(t, "behind", d, choices, fuses...)
	// What is appended behind a crash is found as well.
	d.SetFuse(-1)
	h.does(t, "on", l, 3)
	h.does(t, "on", l, -1)
	h.does(t, "on", l, 0)
	h.recover(t, "on", d, choices)
	return lasts
}

var someChoices = [][]byte{nil, {0, 0}, {1, 1}, {7, 8}, {16, 3}, {17, 40}, {127, 127}, {128, 128}, {129, 129}, {145, 136}, {200, 150}, {255, 255}}

// P6.4, P6.5: every sequence of four calls, with a fuse of each length up to behind its last operation, and what is kept chosen in many ways.
func TestEverySequence(t *testing.T) {
	kinds := []int{0, 5, -1, -2, -3, -9}
	calls := make([]int, 4)
	for i := range 6 * 6 * 6 * 6 {
		for j, k := 0, i; j < 4; j, k = j+1, k/6 {
			calls[j] = kinds[k%6]
		}
		for fuse := 0; ; fuse++ {
			lasts := true
			for c := range 3 {
				lasts = run(t, calls, fuse, someChoices[(i+c*5+fuse)%len(someChoices)]) && lasts
			}
			if lasts {
				break
			}
		}
	}
}

// P6.4: longer runs, all choices, and crashes at each operation of Open too, and at one and another.
func TestCrashesWhileItIsOpened(t *testing.T) {
	for _, calls := range [][]int{
		{1, 2, -1, 3},
		{1, 0, 0, 9, -1, 20, 0, 1, -4, 5, 6, -1, -9},
		{300, -1, 300, 1, -3, 40, 0, -2, 2},
		{4, -3, 4, -3, 4, 4, -3},
	} {
		for fuse := 0; ; fuse++ {
			lasts := true
			for _, choices := range someChoices {
				for one := range 5 {
					for two := range 4 {
						lasts = run(t, calls, fuse, choices, one, two) && lasts
					}
				}
			}
			if lasts {
				break
			}
		}
	}
}

// P6.4: each choice of what is kept of records that aren't synced: the first so many are there.
func TestEveryChoice(t *testing.T) {
	for c := range 256 {
		for _, calls := range [][]int{{0}, {1}, {0, 0, 0}, {1, -1, 1}, {2, 0, 4}, {100}, {90, 3}, {1, -3, 0, 2}} {
			run(t, calls, -1, []byte{byte(c), byte(c)})
			run(t, calls, -1, []byte{byte(c), byte(c + 128)}, 0, 1)
		}
	}
}

// P6.4: a crash is met again and again, on one disk, with calls by chance between.
func TestByChance(t *testing.T) {
	for seed := range 400 {
		r := rand.New(rand.NewSource(int64(seed)))
		d := disk.New()
		h := begun()
		l := h.recover(t, "new", d, nil)
		for range 40 {
			d.SetFuse(r.Intn(25))
			for range 1 + r.Intn(20) {
				what := []int{0, r.Intn(6), r.Intn(100), r.Intn(maxRecord + 1), -1, -1, -2 - r.Intn(4), -2 - r.Intn(12)}[r.Intn(8)]
				if !h.does(t, "by chance", l, what) {
					h.over(t, "by chance", l)
					break
				}
			}
			choices := make([]byte, r.Intn(3))
			r.Read(choices)
			var fuses []int
			for range r.Intn(4) {
				fuses = append(fuses, r.Intn(5))
			}
			l = h.recover(t, "by chance", d, choices, fuses...)
		}
	}
}
