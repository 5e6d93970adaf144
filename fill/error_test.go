package fill_test

import (
	"math"
	"slices"
	"strings"
	"testing"

	"drover/api"
	"drover/fill"
	"drover/place"
)

// noAmounts are numbers that no formed vector has: just outside of what is allowed, and far from it.
func noAmounts() []int64 {
	return []int64{-1, top + 1, -top, 2 * top, math.MinInt64, math.MaxInt64}
}

// sound is a call without fault: its head starts behind the end of two of its five runs, and later may go ahead till then. Copies of it have nothing of each other.
func sound() call {
	c := call{now: 3, head: gang(4, 3), later: gang(1, 1), runtime: 3}
	for i := range int64(5) {
		c.runs = append(c.runs, fill.Run{Job: i, End: []int64{2, 6, 7, 8, 9}[i], Tasks: gang(1, 2), Nodes: []string{"a", "b"}})
	}
	c.slots = []place.Slot{slot("a", 1, 1), slot("b", 1, 1), slot("c", 1, 1)}
	return c
}

// full is sound's call, but that the head has no start.
func full() call {
	c := sound()
	c.head[0][0] = 100
	return c
}

// free is sound's call, but that the head starts now.
func free() call {
	c := sound()
	c.head = gang(1, 0)
	return c
}

// crowded is sound's call, but that later finds no room.
func crowded() call {
	c := sound()
	c.later = gang(2, 0)
	return c
}

// P18.1, P18.2: sound and its kin are what they are said to be; all that is made of them below is by one fault or several.
func TestSound(t *testing.T) {
	starts(t, sound(), 6, "b", "a")
	admits(t, sound(), "a", "b")
	startsNot(t, api.ErrFull, full())
	admits(t, full(), "a", "b")
	starts(t, free(), 3, "a", "a")
	admits(t, free(), "a", "b")
	starts(t, crowded(), 6, "b", "a")
	waits(t, crowded())
	long := sound()
	long.runtime = 4
	waits(t, long)
	long.head = gang(4, 2)
	admits(t, long, "a", "b")
}

// eachAdmit asks that Admit answers the fault so, whatever becomes of the head and of later without.
func eachAdmit(t *testing.T, want api.Errno, fault func(c *call)) {
	t.Helper()
	for _, begin := range []func() call{sound, full, free, crowded} {
		c := begin()
		fault(&c)
		admitsNot(t, want, c)
	}
}

// eachWay asks that both Start and Admit answer the fault so, be later at fault too or not.
func eachWay(t *testing.T, want api.Errno, fault func(c *call)) {
	t.Helper()
	eachAdmit(t, want, fault)
	for _, begin := range []func() call{sound, full, free} {
		c := begin()
		fault(&c)
		startsNot(t, want, c)
		c.later = nil
		admitsNot(t, want, c)
		c.later = gang(-1)
		admitsNot(t, want, c)
	}
}

// P18.1, P18.2: now, Ends and the number of runs that are not as they may be, of the first run, those in the middle and the last.
func TestErrorsOfRange(t *testing.T) {
	for _, now := range []int64{-1, api.MaxNow, api.MaxNow + 1, math.MinInt64, math.MaxInt64} {
		eachWay(t, api.ErrRange, func(c *call) { c.now = now })
	}
	for _, end := range []int64{-1, api.MaxNow + 1, math.MinInt64, math.MaxInt64} {
		for i := range 5 {
			eachWay(t, api.ErrRange, func(c *call) { c.runs[i].End = end })
		}
	}
	for _, more := range []int{96, 97, 5000} {
		eachWay(t, api.ErrRange, func(c *call) { c.runs = append(c.runs, make([]fill.Run, more)...) })
	}
	for _, runtime := range []int64{0, -1, api.MaxRuntime + 1, math.MinInt64, math.MaxInt64} {
		eachAdmit(t, api.ErrRange, func(c *call) { c.runtime = runtime })
	}
	for _, now := range []int64{api.MaxNow - 2, api.MaxNow - 1, math.MaxInt64 - 2, math.MaxInt64 - 3} {
		eachAdmit(t, api.ErrRange, func(c *call) { c.now = now })
	}
	eachWay(t, api.ErrRange, func(c *call) { *c = call{} })
}

// P18.1, P18.2: the head and slots are refused as Fit refuses them.
func TestErrorsOfFit(t *testing.T) {
	for _, n := range noAmounts() {
		for i := range 4 {
			for k := range 2 {
				eachWay(t, api.ErrForm, func(c *call) { c.head[k][i] = n })
			}
			for k := range 3 {
				eachWay(t, api.ErrForm, func(c *call) { c.slots[k].Free[i] = n })
			}
		}
	}
	for i := range 3 {
		for k := range i {
			eachWay(t, api.ErrTwice, func(c *call) { c.slots[i].Node = c.slots[k].Node })
		}
	}
	eachWay(t, api.ErrRange, func(c *call) { c.head = nil })
	eachWay(t, api.ErrRange, func(c *call) { c.head = []api.Vector{} })
	eachWay(t, api.ErrRange, func(c *call) { c.head = make([]api.Vector, api.MaxTasks+1) })
	eachWay(t, api.ErrRange, func(c *call) { c.head = make([]api.Vector, 1<<20) })
}

// P18.2: later is refused as Fit refuses it, be there room or not, and Start doesn't ask for it.
func TestErrorsOfLater(t *testing.T) {
	for _, n := range noAmounts() {
		for i := range 4 {
			for k := range 2 {
				eachAdmit(t, api.ErrForm, func(c *call) { c.later[k][i] = n })
			}
			eachAdmit(t, api.ErrForm, func(c *call) { c.later = append(c.later, make([]api.Vector, 9)...); c.later[10][i] = n })
		}
	}
	for _, n := range []int{0, api.MaxTasks + 1, api.MaxTasks + 2, 1 << 20} {
		eachAdmit(t, api.ErrRange, func(c *call) { c.later = make([]api.Vector, n) })
	}
	for n := 1; n <= api.MaxTasks; n++ {
		for _, begin := range []func() call{sound, full, free} {
			c := begin()
			c.later = make([]api.Vector, n)
			admits(t, c, slices.Repeat([]string{"a"}, n)...)
		}
	}
}

// fault is something that is wrong with one run's giving back.
type fault struct {
	e    api.Errno
	make func(r *fill.Run)
}

// runFaults are all of them, in the order in which Before asks for them. Each stays one if those behind it are made of the same run first.
func runFaults() []fault {
	return []fault{
		{api.ErrForm, func(r *fill.Run) { r.Tasks[0][3] = -1 }},
		{api.ErrForm, func(r *fill.Run) { r.Tasks[len(r.Tasks)-1][0] = top + 1 }},
		{api.ErrRange, func(r *fill.Run) { r.Tasks = append(r.Tasks, make([]api.Vector, api.MaxTasks)...) }},
		{api.ErrRange, func(r *fill.Run) { r.Nodes = r.Nodes[:1] }},
		{api.ErrRange, func(r *fill.Run) { r.Nodes = append(slices.Clone(r.Nodes), "a") }},
		{api.ErrNone, func(r *fill.Run) { r.Nodes[0] = "nobody" }},
		{api.ErrNone, func(r *fill.Run) { r.Nodes[len(r.Nodes)-1] = "" }},
		{api.ErrOver, func(r *fill.Run) { r.Tasks[0][1] = top }},
		{api.ErrOver, func(r *fill.Run) { r.Tasks[1][0] = top }},
	}
}

// P18.1, P18.2: each error of a run's giving back, of the first, of those in the middle and of the last, be it behind the head's start or ahead.
func TestErrorsOfBefore(t *testing.T) {
	for _, x := range runFaults() {
		for i := range 5 {
			eachWay(t, x.e, func(c *call) { x.make(&c.runs[i]) })
		}
	}
}

// P18.1, P18.2: a run has one task to MaxTasks, and as many nodes.
func TestHowManyTasksAndNodes(t *testing.T) {
	for i := range 5 {
		for tasks := range api.MaxTasks + 3 {
			for nodes := range api.MaxTasks + 3 {
				ofSuch := func(c *call) {
					c.runs[i].Tasks = make([]api.Vector, tasks)
					c.runs[i].Nodes = slices.Repeat([]string{"c"}, nodes)
				}
				if tasks != nodes || tasks < 1 || tasks > api.MaxTasks {
					eachWay(t, api.ErrRange, ofSuch)
					continue
				}
				c := sound()
				ofSuch(&c)
				if _, _, e := c.start(); e != api.OK {
					t.Fatalf("a run of %d tasks and nodes is refused: %d", tasks, e)
				}
			}
		}
	}
	eachWay(t, api.ErrRange, func(c *call) { c.runs = []fill.Run{{}} })
}

// P18.1, P18.2: a node of nobody is one that no slot has, be its name close to that of one; where there is no slot at all every node is.
func TestNodeOfNobody(t *testing.T) {
	for _, name := range []string{"", "A", "aa", "d", "\x00", "a ", "a\x00", "\xff", strings.Repeat("a", 1000)} {
		for i := range 5 {
			for k := range 2 {
				eachWay(t, api.ErrNone, func(c *call) { c.runs[i].Nodes[k] = name })
			}
		}
	}
	eachWay(t, api.ErrNone, func(c *call) { c.slots = nil })
	eachWay(t, api.ErrNone, func(c *call) { c.slots = c.slots[1:] })
}

// P18.1, R2: of one run the error is the one that Before names first, of several it is that of the one who was handed in first, whatever it is, and whenever they end.
func TestWhichRunFirst(t *testing.T) {
	all := runFaults()
	for x, early := range all {
		for y, late := range all {
			for i := range 5 {
				for k := i + 1; k < 5; k++ {
					eachWay(t, early.e, func(c *call) {
						early.make(&c.runs[i])
						late.make(&c.runs[k])
					})
					eachWay(t, early.e, func(c *call) {
						early.make(&c.runs[i])
						late.make(&c.runs[k])
						c.runs[i].End, c.runs[k].End = c.runs[k].End, c.runs[i].End
					})
				}
				if x < y {
					eachWay(t, early.e, func(c *call) {
						// The later fault is made first, so that the earlier one finds what it changes.
						late.make(&c.runs[i])
						early.make(&c.runs[i])
					})
				}
			}
		}
	}
}

// P18.1, P18.2, R2: numbers that are out of range come first, then Fit's errors of the head, then those of giving back, then Fit's of later.
func TestWhichErrorFirst(t *testing.T) {
	steps := []struct {
		e     api.Errno
		admit bool // Start doesn't ask for it
		make  func(c *call)
	}{
		{api.ErrRange, true, func(c *call) { c.runtime = 0 }},
		{api.ErrRange, true, func(c *call) { c.now = api.MaxNow - 1 }},
		{api.ErrRange, false, func(c *call) { c.now = -1 }},
		{api.ErrRange, false, func(c *call) { c.runs[4].End = -1 }},
		{api.ErrRange, false, func(c *call) { c.runs = append(c.runs, make([]fill.Run, 96)...) }},
		{api.ErrForm, false, func(c *call) { c.head[1][3] = -1 }},
		{api.ErrForm, false, func(c *call) { c.slots[2].Free[0] = top + 1 }},
		{api.ErrTwice, false, func(c *call) { c.slots[2].Node = "b" }},
		{api.ErrRange, false, func(c *call) { c.head = append(c.head, make([]api.Vector, 5)...) }},
		{api.ErrForm, false, func(c *call) { c.runs[0].Tasks[0][0] = -1 }},
		{api.ErrRange, false, func(c *call) { c.runs[1].Nodes = nil }},
		{api.ErrNone, false, func(c *call) { c.runs[2].Nodes[0] = "nobody" }},
		{api.ErrOver, false, func(c *call) { c.runs[3].Tasks[0][0] = top }},
		{api.ErrForm, true, func(c *call) { c.later[1][0] = -1 }},
		{api.ErrRange, true, func(c *call) { c.later = append(c.later, make([]api.Vector, 5)...) }},
	}
	for i, x := range steps {
		for k := i; k < len(steps); k++ {
			ask := eachWay
			if x.admit {
				ask = eachAdmit
			}
			ask(t, x.e, func(c *call) {
				x.make(c)
				steps[k].make(c)
			})
			// And all between them.
			ask(t, x.e, func(c *call) {
				for _, s := range steps[i : k+1] {
					s.make(c)
				}
			})
		}
	}
}

// P18.1: all runs together may give back up to MaxAmount, of each resource, and not one unit more, whoever has it, in whatever order and whenever it ends.
func TestGivenBackTogether(t *testing.T) {
	for i := range 4 {
		part := func(n int64) []int64 {
			var v api.Vector
			v[i] = n
			return v[:]
		}
		c := call{later: []api.Vector{vec()}, runtime: 1, slots: []place.Slot{slot("b", part(top-6)...), slot("a", part(top-6)...)}}
		orders([]fill.Run{run(1, 5, "a", part(1)...), run(2, 0, "a", part(2)...), run(3, 9, "a", part(3)...)}, func(runs []fill.Run) {
			c.runs = runs
			for n, tick := range map[int64]int64{top - 6: 0, top - 5: 1, top - 4: 1, top - 3: 5, top - 2: 9, top: 9} {
				c.head = []api.Vector{vec(part(n)...)}
				starts(t, c, tick, []string{"b", "a"}[min(tick, 1)])
			}
			refusesBoth := func(runs []fill.Run) {
				for _, n := range []int64{0, top - 6, top} {
					more := c
					more.head, more.runs = []api.Vector{vec(part(n)...)}, runs
					startsNot(t, api.ErrOver, more)
					admitsNot(t, api.ErrOver, more)
				}
			}
			for k := range runs {
				more := slices.Clone(runs)
				r := &more[k]
				r.Tasks = append(slices.Clone(r.Tasks), vec(part(1)...))
				r.Nodes = []string{"a", "a"}
				refusesBoth(more)
				r.Nodes = []string{"a", "b"}
				starts(t, call{head: []api.Vector{vec(part(top)...)}, runs: more, slots: c.slots}, 9, "a")
			}
			one := run(4, api.MaxNow, "a", part(1)...)
			refusesBoth(append(slices.Clone(runs), one))
			refusesBoth(append([]fill.Run{one}, runs...))
		})
	}
}

// P18.1, R2: what is too much is so by those ahead: it is the error of the one who gives back the unit too much, and comes ahead of faults behind that one, and behind faults ahead of it.
func TestLeftByThoseAhead(t *testing.T) {
	slots := []place.Slot{slot("a", top-6), slot("b")}
	four, three, nobody := run(1, 9, "a", 4), run(2, 1, "a", 3), run(3, 0, "z", 1)
	for _, x := range []struct {
		runs []fill.Run
		want api.Errno
	}{
		{[]fill.Run{four, three, nobody}, api.ErrOver},
		{[]fill.Run{three, four, nobody}, api.ErrOver},
		{[]fill.Run{four, nobody, three}, api.ErrNone},
		{[]fill.Run{three, nobody, four}, api.ErrNone},
		{[]fill.Run{nobody, four, three}, api.ErrNone},
		{[]fill.Run{four, three}, api.ErrOver},
		{[]fill.Run{run(9, 9, "b", top), four, three}, api.ErrOver},
		{[]fill.Run{run(9, 9, "b", top), four, run(8, 0, "b", 1)}, api.ErrOver},
	} {
		for _, n := range []int64{0, top} {
			c := call{head: gang(n), later: gang(0), runtime: 1, runs: x.runs, slots: slots}
			startsNot(t, x.want, c)
			admitsNot(t, x.want, c)
		}
	}
	starts(t, call{head: gang(top - 2), runs: []fill.Run{four}, slots: slots}, 9, "a")
	startsNot(t, api.ErrFull, call{head: gang(top - 2), runs: []fill.Run{three}, slots: slots})
}
