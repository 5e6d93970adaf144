package fill_test

import (
	"fmt"
	"math"
	"slices"
	"strconv"
	"strings"
	"testing"

	"drover/api"
	"drover/fill"
	"drover/place"
)

const (
	top  = api.MaxAmount
	last = api.MaxNow - 1 // the last tick that may be now
)

func vec(numbers ...int64) api.Vector {
	var v api.Vector
	copy(v[:], numbers)
	return v
}

func slot(node string, free ...int64) place.Slot {
	return place.Slot{Node: node, Free: vec(free...)}
}

// gang is tasks of the first resource alone.
func gang(numbers ...int64) []api.Vector {
	var tasks []api.Vector
	for _, n := range numbers {
		tasks = append(tasks, vec(n))
	}
	return tasks
}

// run is one of one task on one node.
func run(job, end int64, node string, task ...int64) fill.Run {
	return fill.Run{Job: job, End: end, Tasks: []api.Vector{vec(task...)}, Nodes: []string{node}}
}

// call is what is handed in to Admit; Start takes its head, and neither later nor runtime.
type call struct {
	now         int64
	head, later []api.Vector
	runtime     int64
	runs        []fill.Run
	slots       []place.Slot
}

func (c call) start() (int64, []string, api.Errno) {
	return fill.Start(c.now, c.head, c.runs, c.slots...)
}

func (c call) admit() ([]string, bool, api.Errno) {
	return fill.Admit(c.now, c.head, c.later, c.runtime, c.runs, c.slots...)
}

// shown is runs as text, and no more than the first ones.
func shown(l []fill.Run) string {
	var out strings.Builder
	for i, r := range l {
		if i == 12 {
			fmt.Fprintf(&out, " and %d more", len(l)-i)
			break
		}
		fmt.Fprintf(&out, "{%d until %d, %d on %.20q}", r.Job, r.End, r.Tasks[:min(len(r.Tasks), 8)], r.Nodes[:min(len(r.Nodes), 8)])
	}
	return out.String()
}

// text is the call as one can read it, and no more than its first tasks and slots.
func (c call) text() string {
	var slots strings.Builder
	for _, s := range c.slots[:min(len(c.slots), 12)] {
		fmt.Fprintf(&slots, "{%.20q: %d}", s.Node, s.Free)
	}
	few := func(l []api.Vector) []api.Vector { return l[:min(len(l), 8)] }
	return fmt.Sprintf("at %d: head %d, later %d for %d, %s, %s", c.now, few(c.head), few(c.later), c.runtime, shown(c.runs), slots.String())
}

// starts asks that the head's start is that tick, on these nodes.
func starts(t *testing.T, c call, tick int64, nodes ...string) {
	t.Helper()
	at, where, e := c.start()
	if at != tick || !slices.Equal(where, nodes) || e != api.OK {
		t.Fatalf("%s: Start = %d, %.40q, %d, not %d, %.40q", c.text(), at, where, e, tick, nodes)
	}
}

// startsNot asks that Start refuses so.
func startsNot(t *testing.T, want api.Errno, c call) {
	t.Helper()
	if at, where, e := c.start(); at != 0 || len(where) != 0 || e != want {
		t.Fatalf("%s: Start = %d, %.40q, %d, not %d", c.text(), at, where, e, want)
	}
}

// orders calls each with every order of l.
func orders[T any](l []T, each func([]T)) {
	var grow func(done, left []T)
	grow = func(done, left []T) {
		if len(left) == 0 {
			each(done)
			return
		}
		for i, x := range left {
			grow(append(slices.Clone(done), x), slices.Delete(slices.Clone(left), i, i+1))
		}
	}
	grow(nil, l)
}

// nows are the first and the last ticks that may be now, and some between.
func nows() []int64 {
	return []int64{0, 1, 7, 1 << 32, last - 1, last}
}

// P18.1, P18.2: the chapter's examples.
func TestExamples(t *testing.T) {
	c := call{runs: []fill.Run{run(1, 10, "a", 3)}, slots: []place.Slot{slot("a", 1)}}
	c.head = gang(4)
	starts(t, c, 10, "a")
	c.head = gang(5)
	startsNot(t, api.ErrFull, c)
	c.head = gang(1)
	starts(t, c, 0, "a")
	c.head, c.later, c.runtime = gang(4), gang(1), 10
	admits(t, c, "a")
	c.runtime = 11
	waits(t, c)
	c.head = gang(3)
	admits(t, c, "a")
}

// P18.1: where nobody runs there is room now or never.
func TestNoRun(t *testing.T) {
	slots := []place.Slot{slot("a", 3), slot("b", 3)}
	for _, runs := range [][]fill.Run{nil, {}} {
		for _, now := range nows() {
			starts(t, call{now: now, head: gang(1, 3, 2), runs: runs, slots: slots}, now, "b", "a", "b")
			starts(t, call{now: now, head: gang(0), runs: runs, slots: []place.Slot{slot("")}}, now, "")
			startsNot(t, api.ErrFull, call{now: now, head: gang(4), runs: runs, slots: slots})
			startsNot(t, api.ErrFull, call{now: now, head: gang(2, 2, 2), runs: runs, slots: slots})
			startsNot(t, api.ErrFull, call{now: now, head: gang(0), runs: runs})
		}
	}
}

// P18.1: behind one run there is room, if there is none now, and what the run gives back will do.
func TestOneRun(t *testing.T) {
	for _, now := range nows() {
		end := min(now+9, api.MaxNow)
		c := call{now: now, runs: []fill.Run{run(7, end, "a", 3)}, slots: []place.Slot{slot("a", 1), slot("b", 2)}}
		for _, x := range []struct {
			head  []api.Vector
			tick  int64
			nodes []string
		}{
			{gang(0), now, []string{"a"}},
			{gang(1), now, []string{"a"}},
			{gang(2), now, []string{"b"}},
			{gang(2, 1), now, []string{"b", "a"}},
			{gang(1, 1, 1), now, []string{"a", "b", "b"}},
			{gang(3), end, []string{"a"}},
			{gang(4), end, []string{"a"}},
			{gang(2, 4), end, []string{"b", "a"}},
			{gang(1, 1, 1, 1, 1, 1), end, []string{"a", "a", "a", "a", "b", "b"}},
		} {
			c.head = x.head
			starts(t, c, x.tick, x.nodes...)
		}
		for _, head := range [][]api.Vector{gang(5), gang(4, 3), gang(2, 2, 3), gang(4, 2, 1)} {
			c.head = head
			startsNot(t, api.ErrFull, c)
		}
	}
}

// P18.1: of many runs, MaxJobs of them, the gang waits for as many as it needs, one more for each unit; one run more than MaxJobs is refused.
func TestManyRuns(t *testing.T) {
	for _, now := range []int64{0, 5, api.MaxNow - 100} {
		var runs []fill.Run
		for i := range int64(api.MaxJobs) {
			// 37 has no factor of 100: each End is met once, and they neither rise nor fall.
			runs = append(runs, run(i+1, now+1+i*37%api.MaxJobs, "a", 1))
		}
		c := call{now: now, runs: runs, slots: []place.Slot{slot("a")}}
		for n := range int64(api.MaxJobs + 1) {
			c.head = gang(n)
			starts(t, c, now+n, "a")
		}
		c.head = gang(api.MaxJobs + 1)
		startsNot(t, api.ErrFull, c)
		for _, n := range []int64{0, 1, 50, api.MaxJobs, api.MaxJobs + 1, api.MaxJobs + 2} {
			c.head = gang(n)
			for _, more := range []int{1, 2, 5000} {
				c.runs = append(slices.Clone(runs), slices.Repeat([]fill.Run{run(0, now, "a", 1)}, more)...)
				startsNot(t, api.ErrRange, c)
			}
			c.runs = runs
		}
	}
}

// P18.1: now is from 0 on and below MaxNow, be there room or not, and whoever runs.
func TestNow(t *testing.T) {
	for _, head := range [][]api.Vector{gang(0), gang(1), gang(2), gang(4)} {
		for _, runs := range [][]fill.Run{nil, {run(1, api.MaxNow, "a", 2)}, {run(1, 0, "a", 2)}} {
			c := call{head: head, runs: runs, slots: []place.Slot{slot("a", 1)}}
			for _, c.now = range []int64{-1, api.MaxNow, api.MaxNow + 1, math.MinInt64, math.MaxInt64} {
				startsNot(t, api.ErrRange, c)
			}
			for _, c.now = range nows() {
				switch n := head[0][0]; {
				case n <= 1:
					starts(t, c, c.now, "a")
				case n > 3 || runs == nil:
					startsNot(t, api.ErrFull, c)
				default:
					starts(t, c, max(runs[0].End, c.now+1), "a")
				}
			}
		}
	}
}

// P18.1: an End is 0 to MaxNow, of each run; what is at most now gives back at the next tick.
func TestEnds(t *testing.T) {
	for _, now := range nows() {
		for i := range 3 {
			runs := []fill.Run{run(1, api.MaxNow, "a", 1), run(2, api.MaxNow, "a", 1), run(3, api.MaxNow, "a", 1)}
			c := call{now: now, head: gang(1), runs: runs, slots: []place.Slot{slot("a")}}
			for _, end := range []int64{0, 1, now - 1, now, now + 1, now + 2, api.MaxNow - 1, api.MaxNow} {
				if end < 0 || end > api.MaxNow {
					continue
				}
				runs[i].End = end
				starts(t, c, max(end, now+1), "a")
			}
			for _, head := range [][]api.Vector{gang(0), gang(1), gang(4)} {
				for _, end := range []int64{-1, api.MaxNow + 1, math.MinInt64, math.MaxInt64} {
					runs[i].End = end
					c.head = head
					startsNot(t, api.ErrRange, c)
				}
			}
		}
	}
}

// P18.1: who should have ended, by now or earlier, is taken to end at the next tick, all of them at once, with those who end then.
func TestShouldHaveEnded(t *testing.T) {
	c := call{now: 20, slots: []place.Slot{slot("a", 1)}}
	orders([]fill.Run{run(1, 0, "a", 1), run(2, 19, "a", 1), run(3, 20, "a", 1), run(4, 21, "a", 1), run(5, 22, "a", 1)}, func(runs []fill.Run) {
		c.runs = runs
		for n, tick := range []int64{20, 20, 21, 21, 21, 21, 22} {
			c.head = gang(int64(n))
			starts(t, c, tick, "a")
		}
		c.head = gang(7)
		startsNot(t, api.ErrFull, c)
	})
}

// P18.1: runs of one End give back together.
func TestOneEnd(t *testing.T) {
	for n := range 6 {
		c := call{now: 3, slots: []place.Slot{slot("a"), slot("b")}}
		for i := range n {
			c.runs = append(c.runs, run(int64(i), 8, "a", 1), run(int64(i), 8, "b", 1))
		}
		c.runs = append(c.runs, run(50, 7, "a"), run(51, 9, "b"))
		c.head = gang(int64(n), int64(n))
		if n == 0 {
			starts(t, c, 3, "a", "a")
		} else {
			starts(t, c, 8, "a", "b")
		}
		c.head = gang(int64(n) + 1)
		startsNot(t, api.ErrFull, c)
	}
}

// P18.1: whatever order runs are handed in, they give back in that of their Ends; in every order of few.
func TestEveryOrder(t *testing.T) {
	count := 0
	orders([]fill.Run{run(1, 4, "a", 1), run(2, 9, "a", 2), run(3, 4, "b", 1), run(4, 6, "b", 1), run(5, 2, "c", 1), run(6, 30, "c", 9)}, func(runs []fill.Run) {
		c := call{now: 2, runs: runs, slots: []place.Slot{slot("a", 1), slot("b"), slot("c", 0, 1)}}
		for _, x := range []struct {
			head  []api.Vector
			tick  int64
			nodes []string
		}{
			{gang(1), 2, []string{"a"}},
			{gang(1, 1), 3, []string{"a", "c"}},
			{gang(1, 1, 1), 4, []string{"a", "a", "b"}},
			{gang(2), 4, []string{"a"}},
			{gang(2, 2), 6, []string{"a", "b"}},
			{gang(1, 1, 1, 1, 1), 6, []string{"a", "a", "b", "b", "c"}},
			{gang(3), 9, []string{"a"}},
			{gang(4, 2), 9, []string{"a", "b"}},
			{gang(5), 30, []string{"c"}},
			{[]api.Vector{vec(2, 1)}, 30, []string{"c"}},
		} {
			c.head = x.head
			starts(t, c, x.tick, x.nodes...)
		}
		for _, head := range [][]api.Vector{gang(11), {vec(1, 2)}, gang(5, 6)} {
			c.head = head
			startsNot(t, api.ErrFull, c)
		}
		count++
	})
	if count != 720 {
		t.Fatalf("%d orders", count)
	}
}

// P18.1: the gang finds room behind the first so many ends, be it none of them or all.
func TestBehindSome(t *testing.T) {
	var runs []fill.Run
	for i := range int64(10) {
		runs = append(runs, run(i, 10*i+10, strconv.FormatInt(i%2, 10), 1))
	}
	c := call{now: 5, runs: runs, slots: []place.Slot{slot("0", 1), slot("1", 1)}}
	for n := range int64(7) {
		// Of each of the two nodes every second run gives back.
		c.head = gang(n)
		starts(t, c, []int64{5, 5, 10, 30, 50, 70, 90}[n], "0")
		c.head = gang(n, n)
		starts(t, c, []int64{5, 5, 20, 40, 60, 80, 100}[n], "0", []string{"0", "1"}[min(n, 1)])
	}
	for _, head := range [][]api.Vector{gang(7), gang(6, 6, 1), gang(6, 7)} {
		c.head = head
		startsNot(t, api.ErrFull, c)
	}
}

// P18.1: more room may be worse: a gang finds room at one tick, and none at a later one.
func TestMoreMayBeWorse(t *testing.T) {
	// With 2 on b the gang is on b and a; with 2 on a its first task is there, in the way of the second.
	c := call{head: []api.Vector{vec(2), vec(1, 5)}, slots: []place.Slot{slot("a", 1, 5), slot("b", 1)}}
	onB, onA, third := run(1, 10, "b", 1), run(2, 20, "a", 1), run(3, 30, "a", 1)
	orders([]fill.Run{onA, onB}, func(runs []fill.Run) {
		c.runs = runs
		for now := range int64(10) {
			c.now = now
			starts(t, c, 10, "b", "a")
		}
		// The one on b should have ended, and does at the next tick.
		for now := int64(10); now < 19; now++ {
			c.now = now
			starts(t, c, now+1, "b", "a")
		}
		// Both end at the next tick.
		for _, c.now = range []int64{19, 20, 21, last} {
			startsNot(t, api.ErrFull, c)
		}
	})
	// A third one makes up for it.
	orders([]fill.Run{onA, onB, third}, func(runs []fill.Run) {
		c.now, c.runs = 19, runs
		starts(t, c, 30, "a", "a")
		c.now = 9
		starts(t, c, 10, "b", "a")
	})
	// The other way round there is room behind neither, but behind the third.
	onB.End, onA.End, c.now = 20, 10, 0
	orders([]fill.Run{onA, onB}, func(runs []fill.Run) {
		c.runs = runs
		startsNot(t, api.ErrFull, c)
	})
	orders([]fill.Run{onA, onB, third}, func(runs []fill.Run) {
		c.runs = runs
		starts(t, c, 30, "a", "a")
	})
	// Who finds room now starts now, though there would be none behind.
	c.slots[1].Free[0], c.runs = 2, []fill.Run{onA}
	for _, c.now = range []int64{0, 9, 10, last} {
		starts(t, c, c.now, "b", "a")
	}
}

// P18.1: a gang's nodes are Fit's at the start, not those at now, nor those behind all.
func TestNodesAtStart(t *testing.T) {
	c := call{slots: []place.Slot{slot("z"), slot("a"), slot("m", 1)}, runs: []fill.Run{run(1, 30, "z", 9), run(2, 10, "m", 2), run(3, 20, "a", 4)}}
	c.head = gang(3)
	starts(t, c, 10, "m")
	c.head = gang(1, 3)
	starts(t, c, 20, "a", "a")
	c.head = gang(4, 3)
	starts(t, c, 20, "a", "m")
	c.head = gang(3, 4, 5)
	starts(t, c, 30, "a", "z", "z")
	c.head = gang(4, 4, 3, 4)
	starts(t, c, 30, "z", "z", "m", "a")
}

// P18.1: room is of each resource, up to the last unit.
func TestEachResource(t *testing.T) {
	for i := range 4 {
		part := func(n int64) []int64 {
			var v api.Vector
			v[i] = n
			return v[:]
		}
		c := call{runs: []fill.Run{run(1, 9, "a", part(2)...), run(2, 5, "a", part(3)...)}, slots: []place.Slot{slot("a", part(1)...)}}
		for n, tick := range []int64{0, 0, 5, 5, 5, 9, 9} {
			c.head = []api.Vector{vec(part(int64(n))...)}
			starts(t, c, tick, "a")
		}
		c.head = []api.Vector{vec(part(7)...)}
		startsNot(t, api.ErrFull, c)
		c.head = []api.Vector{vec(part(3)...)}
		c.head[0][(i+1)%4] = 1
		startsNot(t, api.ErrFull, c)
	}
}

// P18.1: runs of several tasks give back on several nodes, all of them at once.
func TestGangs(t *testing.T) {
	both := fill.Run{Job: 1, End: 6, Tasks: []api.Vector{vec(2), vec(3), vec(0, 0, 4), vec(1, 1)}, Nodes: []string{"a", "b", "b", "a"}}
	other := fill.Run{Job: 2, End: 8, Tasks: gang(1, 1, 1, 1, 1, 1), Nodes: []string{"c", "c", "a", "b", "c", "c"}}
	c := call{now: 4, runs: []fill.Run{other, both}, slots: []place.Slot{slot("a"), slot("b", 0, 1), slot("c", 1)}}
	for _, x := range []struct {
		head  []api.Vector
		tick  int64
		nodes []string
	}{
		{[]api.Vector{vec(1), vec(0, 1)}, 4, []string{"c", "b"}},
		{[]api.Vector{vec(3, 1), vec(3, 1, 4), vec(1)}, 6, []string{"a", "b", "c"}},
		{[]api.Vector{vec(1), vec(3, 1, 4)}, 6, []string{"a", "b"}},
		{gang(1, 1, 1, 1, 1, 1), 6, []string{"a", "a", "a", "b", "b", "b"}},
		{gang(5, 4, 4), 8, []string{"c", "a", "b"}},
	} {
		c.head = x.head
		starts(t, c, x.tick, x.nodes...)
	}
	c.head = gang(5, 4, 5)
	startsNot(t, api.ErrFull, c)
}

// P18.1: what runs have may be the whole of a node, at MaxAmount too.
func TestWholeNode(t *testing.T) {
	all := vec(top, top, top, top)
	c := call{head: []api.Vector{all}, runs: []fill.Run{run(1, 9, "a", top-1, top, 0, top), run(2, 5, "a", 1, 0, top)}, slots: []place.Slot{slot("a")}}
	starts(t, c, 9, "a")
	c.head = []api.Vector{vec(1, 0, top)}
	starts(t, c, 5, "a")
	c.head = []api.Vector{all, vec(1)}
	startsNot(t, api.ErrFull, c)
	c.head, c.slots = []api.Vector{all, all}, append(c.slots, place.Slot{Node: "b", Free: all})
	starts(t, c, 9, "a", "b")
	// As many takes as there may be, of one node.
	c.head, c.runs, c.slots = []api.Vector{vec(600)}, nil, c.slots[:1]
	for i := range int64(api.MaxJobs) {
		c.runs = append(c.runs, fill.Run{Job: i, End: 1000 - i, Tasks: gang(1, 1, 1, 1, 1, 1), Nodes: slices.Repeat([]string{"a"}, 6)})
	}
	starts(t, c, 1000, "a")
	c.head[0][0] = 594
	starts(t, c, 999, "a")
}

// P18.1: no slot, one, and many; whose nodes have no order.
func TestHowManySlots(t *testing.T) {
	startsNot(t, api.ErrFull, call{head: gang(0)})
	c := call{now: 1}
	for i := range int64(3000) {
		c.slots = append(c.slots, slot(strconv.FormatInt(i*7%3000, 10), i))
	}
	for i := range int64(100) {
		c.runs = append(c.runs, run(i, 200-i, c.slots[30*i].Node, 3000))
	}
	for _, n := range []int64{0, 1, 1500, 2999} {
		c.head = gang(n)
		starts(t, c, 1, c.slots[n].Node)
	}
	for _, n := range []int64{3000, 3030, 4500, 5970} {
		// Later slots have more, and their runs end earlier: the last run is the first to end.
		c.head = gang(n)
		starts(t, c, 101, c.slots[2970].Node)
	}
	c.head = gang(5971)
	startsNot(t, api.ErrFull, c)
	c.head = gang(4000, 4000, 4000, 0, 2999, 2998)
	starts(t, c, 103, c.slots[2910].Node, c.slots[2940].Node, c.slots[2970].Node, c.slots[0].Node, c.slots[2999].Node, c.slots[2998].Node)
}

// P18.1: any bytes are a node's name.
func TestStrangeNames(t *testing.T) {
	names := []string{"", "\x00", "a", "A", "a\x00", "\xff", "é", "e\u0301", "\U0010ffff", "a b"}
	c := call{}
	for i, name := range names {
		c.slots = append(c.slots, slot(name))
		c.runs = append(c.runs, run(int64(i), int64(50-i), strings.Clone(name), int64(50-i)))
	}
	for i, name := range names {
		c.head = gang(int64(50 - i))
		// The last ones end first, and have the least.
		starts(t, c, int64(50-i), name)
	}
}

// P18.1, P18.2: numbers of jobs are nothing to it: they may be any, and several runs may have one.
func TestJobsAreNothing(t *testing.T) {
	for _, job := range []int64{0, 1, -1, api.MaxJobs + 1, math.MinInt64, math.MaxInt64} {
		c := call{head: gang(4), later: gang(1), runtime: 9, slots: []place.Slot{slot("a", 1)}}
		c.runs = []fill.Run{run(job, 5, "a", 1), run(job, 9, "a", 1), run(1, 7, "a", 1)}
		starts(t, c, 9, "a")
		admits(t, c, "a")
		c.runtime = 10
		waits(t, c)
	}
}
