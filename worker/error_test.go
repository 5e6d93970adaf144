package worker_test

import (
	"math"
	"testing"

	"drover/api"
	"drover/worker"
)

// notEpochs and notTicks are numbers that no node may register by.
func notEpochs() []int64 {
	return []int64{math.MinInt64, -last, -1, 0, last + 1, 1<<32 + 1, math.MaxInt64}
}

func notTicks() []int64 {
	return []int64{math.MinInt64, -1, end + 1, end << 1, math.MaxInt64}
}

// two is a table with a, which is live, and b, which is not; both have the epoch 5 and were seen at 20 and at 3.
func two(t *testing.T) *worker.Table {
	t.Helper()
	w := of(t, live("a", 5, 4, 20), live("b", 5, 2, 3))
	expires(t, w, 13, "b")
	return w
}

// leased asks that a table of two is as it was, by the tick too at which the lease of a is over.
func leased(t *testing.T, w *worker.Table) {
	t.Helper()
	expires(t, w, 29)
	holds(t, w, live("a", 5, 4, 20), lost("b", 5, 2, 3))
	expires(t, w, 30, "a")
}

// P19.2: what is no name, and what isn't formed, is refused, of a node that is there too.
func TestForm(t *testing.T) {
	w := two(t)
	for _, name := range notNames() {
		upsNot(t, w, api.ErrForm, name, 6, api.Vector{1}, 20)
		lacks(t, w, name)
	}
	for _, name := range []string{"a", "b", "c"} {
		for _, v := range unformed() {
			upsNot(t, w, api.ErrForm, name, 6, v, 21)
		}
	}
	leased(t, w)
}

// P19.2: epochs and ticks just outside of what is allowed, and far from it, are refused, of a node that is there too.
func TestRange(t *testing.T) {
	w := two(t)
	for _, name := range []string{"a", "b", "c"} {
		for _, epoch := range notEpochs() {
			upsNot(t, w, api.ErrRange, name, epoch, api.Vector{1}, 21)
			for _, now := range notTicks() {
				upsNot(t, w, api.ErrRange, name, epoch, api.Vector{1}, now)
			}
		}
		for _, now := range notTicks() {
			upsNot(t, w, api.ErrRange, name, 6, api.Vector{1}, now)
		}
	}
	leased(t, w)
}

// P19.2: an epoch that isn't above a node's own is past, be the node live or not.
func TestStale(t *testing.T) {
	w := two(t)
	for _, name := range []string{"a", "b"} {
		for _, epoch := range []int64{1, 2, 4, 5} {
			for _, now := range []int64{0, 20, 25, end} {
				upsNot(t, w, api.ErrStale, name, epoch, api.Vector{4}, now)
			}
		}
	}
	leased(t, w)
	ups(t, w, false, live("a", 6, 4, 40))
	ups(t, w, false, live("b", 6, 2, 40))
	for _, epoch := range []int64{1, 5, 6} {
		upsNot(t, w, api.ErrStale, "a", epoch, api.Vector{4}, 40)
		upsNot(t, w, api.ErrStale, "b", epoch, api.Vector{4}, 40)
	}
	// Of another node that epoch is past or not by itself.
	ups(t, w, false, live("c", 1, 2, 40))
	ups(t, w, true, live("c", 2, 2, 40))
}

// P19.2, R2: where several are at fault the answer is of the first: each number of them, on tables that are full and that aren't, of a node that is there, live or not, and of none.
func TestFirstError(t *testing.T) {
	room, none := two(t), full(t)
	expires(t, none, lease, number(0))
	for _, x := range []struct {
		table *worker.Table
		name  string
		past  int64 // an epoch that is refused behind all else
		want  api.Errno
	}{
		{room, "a", 5, api.ErrStale}, {room, "b", 5, api.ErrStale},
		{none, number(0), 1, api.ErrStale}, {none, number(4), 5, api.ErrStale}, {none, "c", 9, api.ErrFull},
	} {
		good := api.Vector{1, 2, 3, 4}
		upsNot(t, x.table, x.want, x.name, x.past, good, 7)
		for _, now := range notTicks() {
			upsNot(t, x.table, api.ErrRange, x.name, x.past, good, now)
		}
		for _, epoch := range notEpochs() {
			upsNot(t, x.table, api.ErrRange, x.name, epoch, good, 7)
		}
		for _, v := range unformed() {
			upsNot(t, x.table, api.ErrForm, x.name, x.past, v, 7)
			upsNot(t, x.table, api.ErrForm, x.name, 0, v, 7)
			upsNot(t, x.table, api.ErrForm, x.name, x.past, v, -1)
			upsNot(t, x.table, api.ErrForm, x.name, last+1, v, end+1)
		}
		for _, name := range notNames() {
			upsNot(t, x.table, api.ErrForm, name, x.past, good, 7)
			upsNot(t, x.table, api.ErrForm, name, last+1, good, 7)
			upsNot(t, x.table, api.ErrForm, name, x.past, good, end+1)
			upsNot(t, x.table, api.ErrForm, name, 0, api.Vector{-1}, -1)
		}
	}
	leased(t, room)
	expires(t, none, lease+most, numbers()[1:]...)
}

// P19.3: nobody is nobody, whatever the epoch and the tick.
func TestBeatOfNobody(t *testing.T) {
	w := two(t)
	lacks(t, w, "c", "aa", "α", "-")
	lacks(t, w, notNames()...)
	leased(t, w)
	lacks(t, w, "c")
}

// P19.3: a past epoch, one to come, and one that none can be, aren't heard, nor is one that is live no more; at whatever tick.
func TestBeatStale(t *testing.T) {
	w := two(t)
	for _, now := range []int64{math.MinInt64, -1, 0, 3, 19, 20, 21, end, end + 1, math.MaxInt64} {
		for _, epoch := range append(notEpochs(), 1, 4, 6, 5+1<<32, last) {
			beatsNot(t, w, api.ErrStale, "a", epoch, now)
			beatsNot(t, w, api.ErrStale, "b", epoch, now)
		}
		beatsNot(t, w, api.ErrStale, "b", 5, now)
	}
	beats(t, w, "a", 5, 20)
	leased(t, w)
	for _, now := range []int64{0, 20, 30, end} {
		beatsNot(t, w, api.ErrStale, "a", 5, now)
	}
	ups(t, w, false, live("a", 6, 1, 40))
	beatsNot(t, w, api.ErrStale, "a", 5, 41)
	beats(t, w, "a", 6, 41)
	ups(t, w, true, live("a", 8, 1, 42))
	beatsNot(t, w, api.ErrStale, "a", 6, 43)
	beatsNot(t, w, api.ErrStale, "a", 7, 43)
	beats(t, w, "a", 8, 43)
}

// P19.3: a tick ahead of the one at which a node was seen, and one above MaxNow, are refused.
func TestBeatRange(t *testing.T) {
	w := two(t)
	for _, now := range []int64{math.MinInt64, -1, 0, 18, 19, end + 1, end << 1, math.MaxInt64} {
		beatsNot(t, w, api.ErrRange, "a", 5, now)
	}
	beats(t, w, "a", 5, 20)
	leased(t, w)
	w = of(t, live("a", 1, 1, 0))
	for _, now := range []int64{math.MinInt64, -1, end + 1} {
		beatsNot(t, w, api.ErrRange, "a", 1, now)
	}
	beats(t, w, "a", 1, 8)
	beatsNot(t, w, api.ErrRange, "a", 1, 7)
	// Seen is that of the registration, be it ahead of what was heard.
	ups(t, w, true, live("a", 2, 1, 5))
	beatsNot(t, w, api.ErrRange, "a", 2, 4)
	beats(t, w, "a", 2, 5)
	beats(t, w, "a", 2, end)
	beatsNot(t, w, api.ErrRange, "a", 2, end-1)
	beatsNot(t, w, api.ErrRange, "a", 2, end+1)
	beats(t, w, "a", 2, end)
	expires(t, w, end+lease-1)
	expires(t, w, end+lease, "a")
}

// nothing asks that a table of nobody says so, by every call but Register.
func nothing(t *testing.T, w *worker.Table) {
	t.Helper()
	holds(t, w)
	lacks(t, w, names()...)
	lacks(t, w, notNames()...)
	for _, now := range []int64{math.MinInt64, -1, 0, end, math.MaxInt64} {
		expires(t, w, now)
	}
}

// P19.4: a nil table has no nodes, and takes none, whatever it is asked.
func TestNil(t *testing.T) {
	var w *worker.Table
	nothing(t, w)
	for _, name := range append(names(), notNames()...) {
		for _, epoch := range append(notEpochs(), 1, 2, last) {
			for _, now := range append(notTicks(), 0, end) {
				upsNot(t, w, api.ErrState, name, epoch, api.Vector{1}, now)
				upsNot(t, w, api.ErrState, name, epoch, api.Vector{-1}, now)
			}
		}
	}
	nothing(t, w)
}

// P19.4: the zero table is as New's, by whichever call it is met first.
func TestZero(t *testing.T) {
	for _, first := range []func(w *worker.Table){
		func(w *worker.Table) {},
		func(w *worker.Table) { nothing(t, w) },
		func(w *worker.Table) { holds(t, w) },
		func(w *worker.Table) { lacks(t, w, "a") },
		func(w *worker.Table) { expires(t, w, math.MaxInt64) },
		func(w *worker.Table) { beatsNot(t, w, api.ErrNone, "a", 1, 0) },
		func(w *worker.Table) { upsNot(t, w, api.ErrForm, "A", 1, api.Vector{}, 0) },
		func(w *worker.Table) { upsNot(t, w, api.ErrForm, "a", 1, api.Vector{-1}, 0) },
		func(w *worker.Table) { upsNot(t, w, api.ErrRange, "a", 0, api.Vector{}, 0) },
		func(w *worker.Table) { upsNot(t, w, api.ErrRange, "a", 1, api.Vector{}, -1) },
	} {
		var w worker.Table
		first(&w)
		ups(t, &w, false, live("b", 1, 4, 0))
		ups(t, &w, false, live("a", 1, 4, 1))
		beats(t, &w, "b", 1, 2)
		expires(t, &w, 11, "a")
		ups(t, &w, true, live("b", 2, 8, 11))
		expires(t, &w, 21, "b")
		for i := range most - 2 {
			ups(t, &w, false, live(number(i), 1, 1, 0))
		}
		upsNot(t, &w, api.ErrFull, "c", 1, api.Vector{}, 0)
	}
}
