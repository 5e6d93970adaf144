package place_test

import (
	"slices"
	"testing"

	"drover/api"
	"drover/place"
)

// P16.1, P16.2: a task that isn't formed is refused, at each place of each size of gang.
func TestTaskNotFormed(t *testing.T) {
	slots := []place.Slot{slot("a", 9, 9, 9, 9), slot("b", top, top, top, top)}
	for _, v := range unformed() {
		for n := 1; n <= api.MaxTasks; n++ {
			for i := range n {
				tasks := make([]api.Vector, n)
				tasks[i] = v
				nodes := slices.Repeat([]string{"b"}, n)
				refused(t, api.ErrForm, tasks, nodes, slots...)
				refused(t, api.ErrForm, tasks, nodes)
			}
		}
	}
}

// P16.1, P16.2: a slot that isn't formed is refused at each place, though no task is on it.
func TestSlotNotFormed(t *testing.T) {
	for _, v := range unformed() {
		for i := range 5 {
			slots := []place.Slot{slot("a", 9, 9, 9, 9), slot("b", 9), slot("c", top), slot("d"), slot("", 1)}
			node := slots[(i+1)%5].Node
			slots[i].Free = v
			refused(t, api.ErrForm, gang(0), []string{node}, slots...)
			refused(t, api.ErrForm, gang(0), []string{slots[i].Node}, slots...)
			refused(t, api.ErrForm, gang(0), []string{slots[i].Node}, slots[i])
		}
	}
}

// P16.1, P16.2: two slots of one node are refused, wherever they stand, with like and with unlike Free, though no task is there.
func TestTwoOfOneNode(t *testing.T) {
	for i := range 5 {
		for k := range 5 {
			for _, free := range []api.Vector{vec(9), vec(8), vec(), vec(top, top, top, top)} {
				if i == k {
					continue
				}
				slots := []place.Slot{slot("a", 9), slot("b", 9), slot("", 9), slot("d", 9), slot("\xff", 9)}
				slots[i].Node, slots[i].Free = slots[k].Node, free
				for _, s := range slots {
					refused(t, api.ErrTwice, gang(0), []string{s.Node}, slots...)
				}
				refused(t, api.ErrTwice, gang(9, 9, 9, 9, 9, 9), nil, slots...)
			}
		}
	}
	refused(t, api.ErrTwice, gang(1), []string{"a"}, slot("a", 1), slot("a", 1))
	refused(t, api.ErrTwice, gang(1), []string{""}, slot(""), slot(""))
	refused(t, api.ErrTwice, gang(1), []string{"a"}, slot("a"), slot("a"), slot("a"))
}

// call is what is handed in.
type call struct {
	tasks []api.Vector
	nodes []string
	slots []place.Slot
}

// fault is something wrong, which make makes of a call without fault, at the first place or at the last one.
type fault struct {
	e    api.Errno
	make func(c *call, last bool)
}

// end is the number of the first or the last of n.
func end(last bool, n int) int {
	if last {
		return n - 1
	}
	return 0
}

// faults are all of them, in the order in which they are asked for.
func faults() []fault {
	return []fault{
		{api.ErrForm, func(c *call, last bool) { c.tasks[end(last, len(c.tasks))][3] = -1 }},
		{api.ErrForm, func(c *call, last bool) { c.slots[end(last, len(c.slots))].Free[0] = top + 1 }},
		{api.ErrTwice, func(c *call, last bool) { c.slots[end(last, len(c.slots))].Node = c.slots[1].Node }},
		{api.ErrRange, func(c *call, last bool) { c.tasks = append(c.tasks, make([]api.Vector, 5)...) }},
		{api.ErrRange, func(c *call, last bool) { c.nodes = c.nodes[1:] }},
		{api.ErrNone, func(c *call, last bool) { c.nodes[end(last, len(c.nodes))] = "nobody" }},
		{api.ErrOver, func(c *call, last bool) { c.tasks[end(last, 3)][1] = top }},
	}
}

// sound is a call without fault, of After and of Before.
func sound() call {
	return call{gang(1, 2, 3), []string{"a", "b", "c"}, []place.Slot{slot("a", 9, 1), slot("b", 9, 1), slot("c", 9, 1)}}
}

// P16.1, P16.2, R2: where several errors apply, the answer is the one that the chapter names first, whichever stands first.
func TestWhichErrorFirst(t *testing.T) {
	all := faults()
	for i, x := range all {
		for k := i; k < len(all); k++ {
			for places := range 4 {
				c := sound()
				// The later fault is made first, so that the earlier one finds what it changes.
				all[k].make(&c, places%2 == 1)
				x.make(&c, places/2 == 1)
				changesNot(t, x.e, c.tasks, c.nodes, c.slots...)
				switch {
				case i < 4:
					fitsNot(t, x.e, c.tasks, c.slots...)
				case k < 6:
					fits(t, c.tasks, c.slots, "a", "a", "a")
				default:
					fitsNot(t, api.ErrFull, c.tasks, c.slots...)
				}
			}
		}
	}
	c := sound()
	fits(t, c.tasks, c.slots, "a", "a", "a")
	leaves(t, c.tasks, c.nodes, c.slots, slot("a", 8, 1), slot("b", 7, 1), slot("c", 6, 1))
	gives(t, c.tasks, c.nodes, c.slots, slot("a", 10, 1), slot("b", 11, 1), slot("c", 12, 1))
}

// P16.1, P16.2, R2: no tasks come behind what is wrong with the slots; too many come behind one of them that isn't formed.
func TestCountBehindForm(t *testing.T) {
	refused(t, api.ErrForm, nil, nil, slot("a"), slot("a", -1))
	refused(t, api.ErrTwice, nil, nil, slot("a"), slot("a"))
	refused(t, api.ErrRange, nil, nil, slot("a"), slot("b"))
	refused(t, api.ErrRange, nil, nil)
	many := make([]api.Vector, 1000)
	refused(t, api.ErrRange, many, slices.Repeat([]string{"a"}, 1000), slot("a"))
	many[999][2] = -1
	refused(t, api.ErrForm, many, slices.Repeat([]string{"a"}, 1000), slot("a"), slot("a"))
	refused(t, api.ErrTwice, many[:999], slices.Repeat([]string{"a"}, 999), slot("a"), slot("a"))
}

// P16.1, R2: a task that finds no slot comes behind all else.
func TestFullBehindAll(t *testing.T) {
	fitsNot(t, api.ErrForm, append(gang(5), vec(0, 0, 0, top+1)), slot("a"))
	fitsNot(t, api.ErrForm, gang(5), slot("a"), slot("b", 0, -1))
	fitsNot(t, api.ErrTwice, gang(5), slot("a"), slot("a"))
	fitsNot(t, api.ErrRange, gang(5, 5, 5, 5, 5, 5, 5), slot("a"))
	fitsNot(t, api.ErrFull, gang(5, 5, 5, 5, 5, 5), slot("a"))
}
