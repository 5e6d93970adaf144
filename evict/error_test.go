package evict_test

import (
	"math"
	"slices"
	"strings"
	"testing"

	"drover/api"
	"drover/evict"
	"drover/place"
)

// noAmounts are numbers that no formed vector has: just outside of what is allowed, and far from it.
func noAmounts() []int64 {
	return []int64{-1, top + 1, -top, 2 * top, math.MinInt64, math.MaxInt64}
}

// sound is a call without fault: of its five victims some go, some don't, and one is not below. Copies of it have nothing of each other.
func sound() call {
	c := call{tasks: gang(4, 3), priority: 5}
	for i := range int64(5) {
		c.victims = append(c.victims, evict.Victim{Job: i, Priority: 2 * i, Start: i, Tasks: gang(1, 2), Nodes: []string{"a", "b"}})
	}
	c.slots = []place.Slot{slot("a", 1, 1), slot("b", 1, 1), slot("c", 1, 1)}
	return c
}

// full is sound's call, but that there is no room, whoever goes.
func full() call {
	c := sound()
	c.tasks[0][0] = 100
	return c
}

// free is sound's call, but that there is room already.
func free() call {
	c := sound()
	c.tasks = gang(1, 0)
	return c
}

// P17.2: sound, full and free are what they are said to be; all that is made of them below is by one fault or two.
func TestSound(t *testing.T) {
	chooses(t, sound(), []int64{0, 1}, "b", "a")
	refuses(t, api.ErrFull, full())
	chooses(t, free(), nil, "a", "a")
}

// eachWay asks that the fault is answered so, whether there is room without, with some, or not at all; and whoever is below.
func eachWay(t *testing.T, want api.Errno, fault func(c *call)) {
	t.Helper()
	for _, begin := range []func() call{sound, full, free} {
		for _, priority := range []int64{math.MinInt64, 0, 5, math.MaxInt64} {
			c := begin()
			c.priority = priority
			fault(&c)
			refuses(t, want, c)
		}
	}
}

// P17.2: tasks and slots are refused as Fit refuses them.
func TestErrorsOfFit(t *testing.T) {
	for _, n := range noAmounts() {
		for i := range 4 {
			for k := range 2 {
				eachWay(t, api.ErrForm, func(c *call) { c.tasks[k][i] = n })
			}
			for k := range 3 {
				eachWay(t, api.ErrForm, func(c *call) { c.slots[k].Free[i] = n })
			}
		}
	}
	for i := range 3 {
		for k := range i {
			eachWay(t, api.ErrTwice, func(c *call) { c.slots[i].Node = c.slots[k].Node })
		}
	}
	eachWay(t, api.ErrRange, func(c *call) { c.tasks = nil })
	eachWay(t, api.ErrRange, func(c *call) { c.tasks = []api.Vector{} })
	eachWay(t, api.ErrRange, func(c *call) { c.tasks = make([]api.Vector, api.MaxTasks+1) })
	eachWay(t, api.ErrRange, func(c *call) { c.tasks = make([]api.Vector, 1<<20) })
	eachWay(t, api.ErrRange, func(c *call) { *c = call{} })
}

// P17.2: two victims of one job are refused wherever they stand, be they below or not.
func TestTwoVictimsOfOneJob(t *testing.T) {
	for i := range 5 {
		for k := range i {
			eachWay(t, api.ErrTwice, func(c *call) { c.victims[i].Job = c.victims[k].Job })
			eachWay(t, api.ErrTwice, func(c *call) { c.victims[k].Job = c.victims[i].Job })
			eachWay(t, api.ErrTwice, func(c *call) { c.victims[k] = c.victims[i] })
		}
	}
}

// fault is something that is wrong with one victim's giving back.
type fault struct {
	e    api.Errno
	make func(v *evict.Victim)
}

// victimFaults are all of them, in the order in which Before asks for them. Each stays one if those behind it are made of the same victim first.
func victimFaults() []fault {
	return []fault{
		{api.ErrForm, func(v *evict.Victim) { v.Tasks[0][3] = -1 }},
		{api.ErrForm, func(v *evict.Victim) { v.Tasks[len(v.Tasks)-1][0] = top + 1 }},
		{api.ErrRange, func(v *evict.Victim) { v.Tasks = append(v.Tasks, make([]api.Vector, api.MaxTasks)...) }},
		{api.ErrRange, func(v *evict.Victim) { v.Nodes = v.Nodes[:1] }},
		{api.ErrRange, func(v *evict.Victim) { v.Nodes = append(slices.Clone(v.Nodes), "a") }},
		{api.ErrNone, func(v *evict.Victim) { v.Nodes[0] = "nobody" }},
		{api.ErrNone, func(v *evict.Victim) { v.Nodes[len(v.Nodes)-1] = "" }},
		{api.ErrOver, func(v *evict.Victim) { v.Tasks[0][1] = top }},
		{api.ErrOver, func(v *evict.Victim) { v.Tasks[1][0] = top }},
	}
}

// P17.2: each error of a victim's giving back, of the first, of those in the middle and of the last, which is not below.
func TestErrorsOfBefore(t *testing.T) {
	for _, x := range victimFaults() {
		for i := range 5 {
			eachWay(t, x.e, func(c *call) { x.make(&c.victims[i]) })
		}
	}
}

// P17.2: a victim has one task to MaxTasks, and as many nodes, be it below or not.
func TestHowManyTasksAndNodes(t *testing.T) {
	for i := range 5 {
		for tasks := range api.MaxTasks + 3 {
			for nodes := range api.MaxTasks + 3 {
				c := sound()
				c.victims[i].Tasks = make([]api.Vector, tasks)
				c.victims[i].Nodes = slices.Repeat([]string{"c"}, nodes)
				if tasks != nodes || tasks < 1 || tasks > api.MaxTasks {
					refuses(t, api.ErrRange, c)
				} else if _, _, e := c.choose(); e != api.OK {
					t.Fatalf("a victim of %d tasks and nodes is refused: %d", tasks, e)
				}
			}
		}
	}
	eachWay(t, api.ErrRange, func(c *call) { c.victims[4] = bare(9, 9, 9) })
	eachWay(t, api.ErrRange, func(c *call) { c.victims = []evict.Victim{{}} })
}

// P17.2: a node of nobody is one that no slot has, be its name close to that of one; where there is no slot at all every node is.
func TestNodeOfNobody(t *testing.T) {
	for _, name := range []string{"", "A", "aa", "d", "\x00", "a ", "a\x00", "\xff", strings.Repeat("a", 1000)} {
		for i := range 5 {
			for k := range 2 {
				eachWay(t, api.ErrNone, func(c *call) { c.victims[i].Nodes[k] = name })
			}
		}
	}
	eachWay(t, api.ErrNone, func(c *call) { c.slots = nil })
	eachWay(t, api.ErrNone, func(c *call) { c.slots = c.slots[1:] })
	refuses(t, api.ErrFull, call{tasks: gang(0)})
}

// P17.2, R2: of one victim the error is the one that Before names first, of several it is that of the one who was handed in first, whatever it is.
func TestWhichVictimFirst(t *testing.T) {
	all := victimFaults()
	for x, early := range all {
		for y, late := range all {
			for i := range 5 {
				for k := i + 1; k < 5; k++ {
					eachWay(t, early.e, func(c *call) {
						early.make(&c.victims[i])
						late.make(&c.victims[k])
					})
				}
				if x < y {
					eachWay(t, early.e, func(c *call) {
						// The later fault is made first, so that the earlier one finds what it changes.
						late.make(&c.victims[i])
						early.make(&c.victims[i])
					})
				}
			}
		}
	}
}

// P17.2, R2: the order in which victims are handed in counts, not that of their turns.
func TestNotByTurns(t *testing.T) {
	for _, priorities := range [][]int64{{0, 1}, {1, 0}, {9, 0}, {0, 9}, {9, 9}} {
		nobody, unformed := runs(1, priorities[0], 0, "z", 1), runs(2, priorities[1], 0, "a", -1)
		eachWay(t, api.ErrNone, func(c *call) { c.victims = []evict.Victim{nobody, unformed} })
		eachWay(t, api.ErrForm, func(c *call) { c.victims = []evict.Victim{unformed, nobody} })
	}
}

// P17.2, R2: Fit's errors come first, then two victims of one job, then those of giving back, and at last that there is no room.
func TestWhichErrorFirst(t *testing.T) {
	steps := []struct {
		e    api.Errno
		make func(c *call)
	}{
		{api.ErrForm, func(c *call) { c.tasks[1][3] = -1 }},
		{api.ErrForm, func(c *call) { c.slots[2].Free[0] = top + 1 }},
		{api.ErrTwice, func(c *call) { c.slots[2].Node = "b" }},
		{api.ErrRange, func(c *call) { c.tasks = append(c.tasks, make([]api.Vector, 5)...) }},
		{api.ErrTwice, func(c *call) { c.victims[4].Job = c.victims[3].Job }},
		{api.ErrForm, func(c *call) { c.victims[0].Tasks[0][0] = -1 }},
		{api.ErrRange, func(c *call) { c.victims[1].Nodes = nil }},
		{api.ErrNone, func(c *call) { c.victims[2].Nodes[0] = "nobody" }},
		{api.ErrOver, func(c *call) { c.victims[3].Tasks[0][0] = top }},
	}
	for i, x := range steps {
		for k := i; k < len(steps); k++ {
			eachWay(t, x.e, func(c *call) {
				x.make(c)
				steps[k].make(c)
			})
			// And all between them.
			eachWay(t, x.e, func(c *call) {
				for _, s := range steps[i : k+1] {
					s.make(c)
				}
			})
		}
	}
}

// P17.2: victims who are not below are asked too, where nobody else is there, and where there is room.
func TestNotBelowIsAsked(t *testing.T) {
	for _, x := range victimFaults() {
		for _, priority := range []int64{5, 6, math.MaxInt64} {
			for _, task := range []int64{0, 1, 2, 50} {
				v := evict.Victim{Job: 1, Priority: priority, Tasks: gang(1, 2), Nodes: []string{"a", "a"}}
				x.make(&v)
				refuses(t, x.e, call{gang(task), 5, []evict.Victim{v}, []place.Slot{slot("a", 1, 1)}})
				refuses(t, x.e, call{gang(task), 5, []evict.Victim{runs(2, 0, 0, "a", 1), v, runs(3, 9, 0, "a", 1)}, []place.Slot{slot("a", 1, 1)}})
			}
		}
	}
}

// P17.2: all victims together may give back up to MaxAmount, of each resource, and not one unit more, whoever has it, in whatever order and of whatever priority.
func TestGivenBackTogether(t *testing.T) {
	for i := range 4 {
		part := func(n int64) []int64 {
			var v api.Vector
			v[i] = n
			return v[:]
		}
		slots := []place.Slot{slot("b", part(top-6)...), slot("a", part(top-6)...)}
		orders([]evict.Victim{runs(1, 0, 0, "a", part(1)...), runs(2, 9, 0, "a", part(2)...), runs(3, 4, 0, "a", part(3)...)}, func(victims []evict.Victim) {
			task := []api.Vector{vec(part(top - 2)...)}
			chooses(t, call{task, 5, victims, slots}, []int64{1, 3}, "a")
			chooses(t, call{[]api.Vector{vec(part(top)...)}, 10, victims, slots}, []int64{1, 3, 2}, "a")
			for k := range victims {
				more := slices.Clone(victims)
				v := &more[k]
				v.Tasks = append(slices.Clone(v.Tasks), vec(part(1)...))
				v.Nodes = []string{"a", "a"}
				refuses(t, api.ErrOver, call{task, 5, more, slots})
				refuses(t, api.ErrOver, call{[]api.Vector{vec()}, 5, more, slots})
				v.Nodes = []string{"a", "b"}
				chooses(t, call{[]api.Vector{vec()}, 5, more, slots}, nil, "b")
			}
			last := runs(4, 9, 0, "a", part(1)...)
			refuses(t, api.ErrOver, call{task, 5, append(slices.Clone(victims), last), slots})
			refuses(t, api.ErrOver, call{task, 5, append([]evict.Victim{last}, victims...), slots})
		})
	}
}

// P17.2, R2: what is too much is so by those ahead: it is the error of the one who gives back the unit too much, and comes ahead of faults behind that one, and behind faults ahead of it.
func TestLeftByThoseAhead(t *testing.T) {
	slots := []place.Slot{slot("a", top-6), slot("b")}
	four, three, nobody := runs(1, 0, 0, "a", 4), runs(2, 9, 0, "a", 3), runs(3, 0, 0, "z", 1)
	for _, x := range []struct {
		victims []evict.Victim
		want    api.Errno
	}{
		{[]evict.Victim{four, three, nobody}, api.ErrOver},
		{[]evict.Victim{three, four, nobody}, api.ErrOver},
		{[]evict.Victim{four, nobody, three}, api.ErrNone},
		{[]evict.Victim{three, nobody, four}, api.ErrNone},
		{[]evict.Victim{nobody, four, three}, api.ErrNone},
		{[]evict.Victim{four, three}, api.ErrOver},
		{[]evict.Victim{runs(9, 9, 9, "b", top), four, three}, api.ErrOver},
		{[]evict.Victim{runs(9, 9, 9, "b", top), four, runs(8, 0, 0, "b", 1)}, api.ErrOver},
	} {
		refuses(t, x.want, call{gang(top), 5, x.victims, slots})
		refuses(t, x.want, call{gang(0), 5, x.victims, slots})
	}
	chooses(t, call{gang(top - 2), 5, []evict.Victim{four}, slots}, []int64{1}, "a")
	refuses(t, api.ErrFull, call{gang(top - 2), 5, []evict.Victim{three}, slots})
}
