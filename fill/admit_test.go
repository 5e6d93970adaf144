package fill_test

import (
	"math"
	"slices"
	"testing"

	"drover/api"
	"drover/fill"
	"drover/place"
)

// admits asks that later is admitted on these nodes.
func admits(t *testing.T, c call, nodes ...string) {
	t.Helper()
	where, ok, e := c.admit()
	if !slices.Equal(where, nodes) || !ok || e != api.OK {
		t.Fatalf("%s: Admit = %.40q, %v, %d, not %.40q", c.text(), where, ok, e, nodes)
	}
}

// waits asks that later is not admitted, and there is no error.
func waits(t *testing.T, c call) {
	t.Helper()
	if where, ok, e := c.admit(); len(where) != 0 || ok || e != api.OK {
		t.Fatalf("%s: Admit = %.40q, %v, %d, not none", c.text(), where, ok, e)
	}
}

// admitsNot asks that Admit refuses so.
func admitsNot(t *testing.T, want api.Errno, c call) {
	t.Helper()
	if where, ok, e := c.admit(); len(where) != 0 || ok || e != want {
		t.Fatalf("%s: Admit = %.40q, %v, %d, not %d", c.text(), where, ok, e, want)
	}
}

// heads are gangs for cluster's nodes: who starts now, who starts later, and who has no start.
func heads() [][]api.Vector {
	return [][]api.Vector{gang(1), gang(4), gang(9)}
}

// cluster is a node of which 1 of 4 is free, the others until that end.
func cluster(now, end int64) call {
	return call{now: now, later: gang(0), runtime: 1, runs: []fill.Run{run(1, end, "a", 3)}, slots: []place.Slot{slot("a", 1)}}
}

// P18.2: a runtime is 1 to MaxRuntime, whatever the head's start is.
func TestRuntime(t *testing.T) {
	for _, head := range heads() {
		for _, now := range []int64{0, 1, 5, api.MaxNow - api.MaxRuntime} {
			c := cluster(now, now+3)
			c.head = head
			for _, c.runtime = range []int64{1, 2, 3, 500, api.MaxRuntime - 1, api.MaxRuntime} {
				admits(t, c, "a")
			}
			for _, later := range [][]api.Vector{gang(0), gang(2), nil, gang(-1)} {
				c.later = later
				for _, c.runtime = range []int64{0, -1, api.MaxRuntime + 1, api.MaxNow, math.MinInt64, math.MaxInt64} {
					admitsNot(t, api.ErrRange, c)
				}
			}
		}
	}
}

// P18.2: now + runtime is at most MaxNow, and a now that Start refuses is refused.
func TestNowAndRuntime(t *testing.T) {
	for _, head := range heads() {
		for _, runtime := range []int64{1, 2, 10, api.MaxRuntime} {
			c := cluster(api.MaxNow-runtime, api.MaxNow)
			c.head, c.runtime = head, runtime
			admits(t, c, "a")
			c.now--
			admits(t, c, "a")
			for _, c.now = range []int64{api.MaxNow - runtime + 1, api.MaxNow - 1, api.MaxNow, api.MaxNow + 1, -1, math.MinInt64, math.MaxInt64} {
				if c.now < 0 || c.now > api.MaxNow-runtime {
					admitsNot(t, api.ErrRange, c)
				}
			}
			// The sum would wrap round.
			for _, c.now = range []int64{math.MaxInt64 - runtime, math.MaxInt64 - runtime + 1, math.MinInt64 + runtime} {
				admitsNot(t, api.ErrRange, c)
			}
		}
	}
}

// P18.2: Ends are 0 to MaxNow, and runs at most MaxJobs, as Start's.
func TestEndsOfAdmit(t *testing.T) {
	for _, head := range heads() {
		c := cluster(3, 0)
		c.head = head
		for _, end := range []int64{0, 3, 4, 5, api.MaxNow} {
			c.runs[0].End = end
			admits(t, c, "a")
		}
		for _, end := range []int64{-1, api.MaxNow + 1, math.MinInt64, math.MaxInt64} {
			c.runs[0].End = end
			admitsNot(t, api.ErrRange, c)
		}
		c.runs = slices.Repeat([]fill.Run{run(1, 9, "a")}, api.MaxJobs+1)
		admitsNot(t, api.ErrRange, c)
	}
}

// P18.2: later who finds no room now is not admitted, though it would at the next tick, whatever the head's start is.
func TestNoRoomNow(t *testing.T) {
	for _, head := range heads() {
		for _, end := range []int64{0, 5, 6, 100} {
			for _, later := range [][]api.Vector{gang(2), gang(4), gang(1, 1), gang(50), {vec(0, 0, 0, 1)}} {
				c := cluster(5, end)
				c.head, c.later = head, later
				waits(t, c)
			}
		}
	}
	waits(t, call{head: gang(1), later: gang(0), runtime: 1})
}

// P18.2: where the head has no start later is admitted, if only it finds room now, however long it runs.
func TestHeadWithoutStart(t *testing.T) {
	for _, head := range [][]api.Vector{gang(5), gang(4, 1), gang(top), {vec(1, 1)}} {
		for _, runtime := range []int64{1, 9, 10, 11, api.MaxRuntime} {
			for _, end := range []int64{0, 10, api.MaxNow} {
				c := cluster(0, end)
				c.head, c.later, c.runtime = head, gang(1), runtime
				admits(t, c, "a")
				c.later = gang(2)
				waits(t, c)
			}
		}
	}
	// It had one at a tick ahead of now, and more room is worse.
	c := call{now: 20, head: []api.Vector{vec(2), vec(1, 5)}, later: gang(1, 2), runtime: 9, slots: []place.Slot{slot("a", 2, 5), slot("b", 2)}}
	admits(t, c, "b", "a")
}

// P18.2: later who needs what the head needs has to end at the head's start at the latest: one tick ahead, just then, and one tick behind.
func TestEndsAtHeadsStart(t *testing.T) {
	for _, now := range []int64{0, 1, 30, api.MaxNow - 2000} {
		for _, until := range []int64{2, 3, 10, api.MaxRuntime - 1} {
			c := cluster(now, now+until)
			c.head, c.later = gang(4), gang(1)
			for _, x := range []struct {
				runtime int64
				may     bool
			}{{1, true}, {until - 1, true}, {until, true}, {until + 1, false}, {api.MaxRuntime, false}} {
				if c.runtime = x.runtime; x.may {
					admits(t, c, "a")
				} else {
					waits(t, c)
				}
			}
		}
		// The head's start is the next tick: a runtime of 1 alone ends then.
		for _, end := range []int64{0, now, now + 1} {
			c := cluster(now, end)
			c.head, c.later, c.runtime = gang(4), gang(1), 1
			admits(t, c, "a")
			c.runtime = 2
			waits(t, c)
		}
	}
}

// P18.2: later may run behind the head's start, if it takes what the head doesn't need, to the last unit, of each resource, on the node and on others.
func TestTakesWhatIsNotNeeded(t *testing.T) {
	for i := range 4 {
		part := func(n int64) []int64 {
			var v api.Vector
			v[i] = n
			return v[:]
		}
		c := call{runtime: api.MaxRuntime, runs: []fill.Run{run(1, 10, "a", part(5)...)}, slots: []place.Slot{slot("a", part(3)...)}}
		for head := int64(4); head <= 8; head++ {
			c.head = []api.Vector{vec(part(head)...)}
			for later := range int64(4) {
				c.later = []api.Vector{vec(part(later)...)}
				if head+later <= 8 {
					admits(t, c, "a")
				} else {
					waits(t, c)
				}
			}
		}
	}
	c := call{head: gang(5), runtime: 100, runs: []fill.Run{run(1, 10, "a", 3)}, slots: []place.Slot{slot("b", 4), slot("a", 2)}}
	c.later = gang(4)
	admits(t, c, "b")
	c.later = gang(4, 1)
	waits(t, c)
	c.later = gang(1, 1, 1, 1)
	admits(t, c, "b", "b", "b", "b")
	c.later = gang(1, 1, 1, 1, 1)
	waits(t, c)
}

// P18.2: a head who finds room now does so behind later too, or later is not admitted; its nodes may be others.
func TestHeadStartsNow(t *testing.T) {
	c := call{now: 6, runtime: 1, slots: []place.Slot{slot("a", 3), slot("b", 3)}}
	for head := range int64(4) {
		for later := range int64(4) {
			c.head, c.later = gang(head), gang(later)
			// Later is on a, and the head on a or b.
			admits(t, c, "a")
			c.head = gang(head, head)
			if head <= 1 || head+later <= 3 {
				admits(t, c, "a")
			} else {
				waits(t, c)
			}
		}
	}
	c.head, c.later = gang(3), gang(2)
	starts(t, c, 6, "a")
	admits(t, c, "a")
	c.later = gang(2, 2)
	waits(t, c)
}

// P18.2: the head's nodes at its start may be others with later, if only the tick is the same.
func TestHeadElsewhere(t *testing.T) {
	c := call{head: gang(4), later: gang(2), runtime: 50, runs: []fill.Run{run(1, 10, "a", 2), run(2, 10, "b", 4)}, slots: []place.Slot{slot("a", 2), slot("b")}}
	starts(t, c, 10, "a")
	admits(t, c, "a")
	// Were b free a tick later, the head would wait for that.
	c.runs[1].End = 11
	starts(t, c, 10, "a")
	waits(t, c)
	// And a tick earlier it starts there anyway.
	c.runs[1].End = 9
	starts(t, c, 9, "b")
	admits(t, c, "a")
}

// with is the call behind the admission of later.
func with(t *testing.T, c call) call {
	t.Helper()
	nodes, e := place.Fit(c.later, c.slots...)
	if e != api.OK {
		t.Fatalf("%s: later finds no room: %d", c.text(), e)
	}
	if c.slots, e = place.After(c.later, nodes, c.slots...); e != api.OK {
		t.Fatalf("%s: After = %d", c.text(), e)
	}
	c.runs = append(slices.Clone(c.runs), fill.Run{Job: 77, End: c.now + c.runtime, Tasks: c.later, Nodes: nodes})
	return c
}

// P18.2: the same tick, not an earlier one: where more room is worse later may make the head start earlier, and is not admitted.
func TestEarlierIsNotTheSame(t *testing.T) {
	// The head's first task is on a, in the way of the second; with later on a it is on b.
	c := call{head: []api.Vector{vec(2), vec(1, 5)}, later: gang(1), slots: []place.Slot{slot("a", 2, 5), slot("b", 2)}}
	c.runs = []fill.Run{run(1, 10, "a", 1)}
	starts(t, c, 10, "a", "a")
	for _, c.runtime = range []int64{1, 5, 9, 10, 11, api.MaxRuntime} {
		starts(t, with(t, c), 0, "b", "a")
		waits(t, c)
	}
	// Here it would be a later tick than now, and an earlier one than without.
	c.slots[1].Free[0] = 1
	c.runs = append(c.runs, run(2, 3, "b", 1))
	starts(t, c, 10, "a", "a")
	for _, c.runtime = range []int64{4, 10, api.MaxRuntime} {
		starts(t, with(t, c), 3, "b", "a")
		waits(t, c)
	}
	// Where later is gone by then it makes nothing earlier.
	for _, c.runtime = range []int64{1, 2, 3} {
		starts(t, with(t, c), 10, "a", "a")
		admits(t, c, "a")
	}
	// Where the head has no start later may give it one, and is admitted.
	c.runs = c.runs[1:]
	startsNot(t, api.ErrFull, c)
	c.runtime = 4
	starts(t, with(t, c), 3, "b", "a")
	admits(t, c, "a")
}

// P18.2: with later the head may have no start at all, where more room is worse; then later is not admitted.
func TestNoStartWithLater(t *testing.T) {
	// At 10 the head is on b and a, at 20 its first task is on a, in the way of the second.
	c := call{head: []api.Vector{vec(2), vec(1, 5)}, later: []api.Vector{vec(0, 1)}, slots: []place.Slot{slot("a", 1, 5), slot("b", 1)}}
	c.runs = []fill.Run{run(1, 10, "b", 1), run(2, 20, "a", 1)}
	starts(t, c, 10, "b", "a")
	for _, c.runtime = range []int64{1, 9, 10} {
		starts(t, with(t, c), 10, "b", "a")
		admits(t, c, "a")
	}
	for _, c.runtime = range []int64{11, 15, 19} {
		starts(t, with(t, c), c.runtime, "b", "a")
		waits(t, c)
	}
	for _, c.runtime = range []int64{20, 21, api.MaxRuntime} {
		startsNot(t, api.ErrFull, with(t, c))
		waits(t, c)
	}
	c.later = gang(0)
	admits(t, c, "a")
}

// P18.2: with as many runs as there may be one more is one too many for Start, and later is admitted only where the head has no start; with one fewer it may be.
func TestAtMaxJobs(t *testing.T) {
	for _, now := range []int64{0, 4} {
		for n := range int64(3) {
			c := call{now: now, later: gang(1), runtime: 9, slots: []place.Slot{slot("a", 9)}}
			for i := range api.MaxJobs - n {
				c.runs = append(c.runs, run(i, now+9, "a", 1))
			}
			most := 9 + int64(len(c.runs))
			for _, head := range []int64{0, 8, 9, 10, most} {
				c.head = gang(head)
				switch {
				case n == 0 || head == 9:
					waits(t, c)
				default:
					admits(t, c, "a")
				}
			}
			c.head = gang(most + 1)
			admits(t, c, "a")
			c.later = gang(10)
			waits(t, c)
		}
	}
}

// P18.2: who is admitted is on Fit's nodes now, in the order of its tasks.
func TestLaterNodes(t *testing.T) {
	c := call{head: gang(20), later: gang(1, 3, 2), runtime: 4, runs: []fill.Run{run(1, 4, "b", 20)}, slots: []place.Slot{slot("b", 3), slot("a", 3)}}
	admits(t, c, "a", "b", "a")
	c.later = gang(1, 1, 1, 1, 1, 1)
	admits(t, c, "b", "b", "b", "a", "a", "a")
	c.later = []api.Vector{vec(3), vec(0, 0), vec(3)}
	admits(t, c, "b", "b", "a")
	c.runtime = 5
	c.head = gang(20, 3)
	waits(t, c)
	c.later = gang(0, 0, 3)
	starts(t, c, 4, "b", "b")
	admits(t, c, "b", "b", "b")
	c.head = gang(21, 3)
	waits(t, c)
}

// P18.2: later takes no longer than it runs: behind it the head finds what it has given back, at the same tick as other ends.
func TestGivesBackAtItsEnd(t *testing.T) {
	var runs []fill.Run
	for i := range int64(20) {
		runs = append(runs, run(i, 5*i+5, "a", 1))
	}
	c := call{later: gang(1, 1), runs: runs, slots: []place.Slot{slot("a", 2)}}
	for need := int64(3); need <= 22; need++ {
		c.head = gang(need)
		start := 5 * (need - 2)
		starts(t, c, start, "a")
		for _, c.runtime = range []int64{1, start - 1, start} {
			admits(t, c, "a", "a")
		}
		for _, c.runtime = range []int64{start + 1, start + 5, 1000} {
			waits(t, c)
		}
	}
}
