package place_test

import (
	"slices"
	"strconv"
	"testing"

	"drover/api"
	"drover/place"
)

// leaves asks that After answers these slots.
func leaves(t *testing.T, tasks []api.Vector, nodes []string, slots []place.Slot, want ...place.Slot) {
	t.Helper()
	if got, e := place.After(tasks, nodes, slots...); !slices.Equal(got, want) || e != api.OK {
		t.Fatalf("After(%v, %.40q, %s) = %s, %d, not %s", tasks, nodes, shown(slots), shown(got), e, shown(want))
	}
}

// gives asks that Before answers these slots.
func gives(t *testing.T, tasks []api.Vector, nodes []string, slots []place.Slot, want ...place.Slot) {
	t.Helper()
	if got, e := place.Before(tasks, nodes, slots...); !slices.Equal(got, want) || e != api.OK {
		t.Fatalf("Before(%v, %.40q, %s) = %s, %d, not %s", tasks, nodes, shown(slots), shown(got), e, shown(want))
	}
}

// leavesNot asks that After refuses so.
func leavesNot(t *testing.T, want api.Errno, tasks []api.Vector, nodes []string, slots ...place.Slot) {
	t.Helper()
	if got, e := place.After(tasks, nodes, slots...); len(got) != 0 || e != want {
		t.Fatalf("After(%v, %.40q, %s) = %s, %d, not %d", tasks, nodes, shown(slots), shown(got), e, want)
	}
}

// givesNot asks that Before refuses so.
func givesNot(t *testing.T, want api.Errno, tasks []api.Vector, nodes []string, slots ...place.Slot) {
	t.Helper()
	if got, e := place.Before(tasks, nodes, slots...); len(got) != 0 || e != want {
		t.Fatalf("Before(%v, %.40q, %s) = %s, %d, not %d", tasks, nodes, shown(slots), shown(got), e, want)
	}
}

// changesNot asks that After and Before refuse so.
func changesNot(t *testing.T, want api.Errno, tasks []api.Vector, nodes []string, slots ...place.Slot) {
	t.Helper()
	leavesNot(t, want, tasks, nodes, slots...)
	givesNot(t, want, tasks, nodes, slots...)
}

// refused asks that all calls refuse so: After and Before whatever nodes there are.
func refused(t *testing.T, want api.Errno, tasks []api.Vector, nodes []string, slots ...place.Slot) {
	t.Helper()
	fitsNot(t, want, tasks, slots...)
	changesNot(t, want, tasks, nodes, slots...)
	changesNot(t, want, tasks, nil, slots...)
	changesNot(t, want, tasks, append(slices.Clone(nodes), "one more"), slots...)
	changesNot(t, want, tasks, slices.Repeat([]string{"nobody"}, len(tasks)), slots...)
}

// P16.2: each task is taken and given back on its own node, in whatever order the nodes and the slots are.
func TestEachOnItsNode(t *testing.T) {
	tasks := []api.Vector{vec(1, 0, 0, 9), vec(2, 0, 5), vec(4, 3), vec(8)}
	slots := []place.Slot{slot("a", 20, 20, 20, 20), slot("b", 21, 21, 21, 21), slot("c", 22, 22, 22, 22), slot("d", 23, 23, 23, 23)}
	orders([]int{0, 1, 2, 3}, func(at []int) {
		var nodes []string
		less, more := slices.Clone(slots), slices.Clone(slots)
		for i, to := range at {
			nodes = append(nodes, slots[to].Node)
			for k, n := range tasks[i] {
				less[to].Free[k] -= n
				more[to].Free[k] += n
			}
		}
		leaves(t, tasks, nodes, slots, less...)
		gives(t, tasks, nodes, slots, more...)
	})
}

// P16.2: one node may have all tasks, one of many slots too; the other slots stay as they are.
func TestOneNodeForAll(t *testing.T) {
	tasks := []api.Vector{vec(1), vec(2, 1), vec(3), vec(4, 0, 1), vec(5), vec(6, 0, 0, 1)}
	var slots []place.Slot
	for i := range 200 {
		slots = append(slots, slot(strconv.Itoa(i), 21, 1, 1, 1))
	}
	for i := range slots {
		nodes := slices.Repeat([]string{strconv.Itoa(i)}, 6)
		less, more := slices.Clone(slots), slices.Clone(slots)
		less[i].Free, more[i].Free = vec(), vec(42, 2, 2, 2)
		leaves(t, tasks, nodes, slots, less...)
		gives(t, tasks, nodes, slots, more...)
	}
	leaves(t, gang(7), []string{"a"}, []place.Slot{slot("a", 7)}, slot("a"))
	gives(t, gang(7), []string{"a"}, []place.Slot{slot("a")}, slot("a", 7))
}

// P16.2: tasks of noughts change nothing, at both ends of what a slot may have.
func TestNoughts(t *testing.T) {
	slots := []place.Slot{slot("a"), slot("b", top, top, top, top)}
	for n := 1; n <= api.MaxTasks; n++ {
		for _, node := range []string{"a", "b"} {
			nodes := slices.Repeat([]string{node}, n)
			leaves(t, make([]api.Vector, n), nodes, slots, slots...)
			gives(t, make([]api.Vector, n), nodes, slots, slots...)
		}
	}
}

// P16.2: there must be as many nodes as tasks.
func TestHowManyNodes(t *testing.T) {
	slots := []place.Slot{slot("a", 9), slot("b", 9)}
	for tasks := range 9 {
		for nodes := range 9 {
			l := slices.Repeat([]string{"a", "b"}, 5)[:nodes]
			if tasks != nodes || tasks < 1 || tasks > api.MaxTasks {
				changesNot(t, api.ErrRange, make([]api.Vector, tasks), l, slots...)
				changesNot(t, api.ErrRange, make([]api.Vector, tasks), l)
				continue
			}
			leaves(t, make([]api.Vector, tasks), l, slots, slots...)
			gives(t, make([]api.Vector, tasks), l, slots, slots...)
		}
	}
	changesNot(t, api.ErrRange, gang(1), make([]string, 1<<20), slots...)
}

// P16.2: a node of nobody is refused at each place, and where there is no slot at all; close names are not enough.
func TestNodeOfNobody(t *testing.T) {
	slots := []place.Slot{slot("a", 9), slot("bb", 9), slot("c\x00", 9)}
	for n := 1; n <= api.MaxTasks; n++ {
		nodes := slices.Repeat([]string{"a", "bb", "c\x00"}, 2)[:n]
		for i := range n {
			for _, name := range []string{"", "A", "b", "bbb", "c", "\x00", "a ", "\xff"} {
				l := slices.Clone(nodes)
				l[i] = name
				changesNot(t, api.ErrNone, make([]api.Vector, n), l, slots...)
				changesNot(t, api.ErrNone, make([]api.Vector, n), l)
			}
		}
	}
	changesNot(t, api.ErrNone, gang(0), []string{""})
}

// P16.2: of a slot may be taken what is free, and no more, by one task and by several together, of each resource, on each slot.
func TestTooMuchTaken(t *testing.T) {
	for i := range 4 {
		part := func(n int64) api.Vector {
			var v api.Vector
			v[i] = n
			return v
		}
		slots := []place.Slot{{Node: "a", Free: part(6)}, {Node: "b", Free: part(6)}, {Node: "c", Free: part(6)}}
		for k, s := range slots {
			left := slices.Clone(slots)
			left[k].Free = vec()
			leaves(t, []api.Vector{part(6)}, []string{s.Node}, slots, left...)
			leavesNot(t, api.ErrOver, []api.Vector{part(7)}, []string{s.Node}, slots...)
			leavesNot(t, api.ErrOver, []api.Vector{part(top)}, []string{s.Node}, slots...)
			one := slices.Repeat([]string{s.Node}, 6)
			leaves(t, slices.Repeat([]api.Vector{part(1)}, 6), one, slots, left...)
			for _, more := range []int{0, 3, 5} {
				tasks := slices.Repeat([]api.Vector{part(1)}, 6)
				tasks[more] = part(2)
				leavesNot(t, api.ErrOver, tasks, one, slots...)
			}
			leavesNot(t, api.ErrOver, slices.Repeat([]api.Vector{part(top)}, 6), one, slots...)
			leavesNot(t, api.ErrOver, []api.Vector{part(3), part(4)}, one[:2], slots...)
			leaves(t, []api.Vector{part(3), part(3)}, one[:2], slots, left...)
			// The other resources are at their end too.
			if i > 0 {
				leavesNot(t, api.ErrOver, []api.Vector{vec(1)}, one[:1], slots...)
			}
		}
	}
}

// P16.2: a slot may be given back up to MaxAmount, and no more, by one task and by several together, of each resource, on each slot.
func TestTooMuchGiven(t *testing.T) {
	for i := range 4 {
		part := func(n int64) api.Vector {
			var v api.Vector
			v[i] = n
			return v
		}
		slots := []place.Slot{{Node: "a", Free: part(top - 6)}, {Node: "b", Free: part(top - 6)}, {Node: "c", Free: part(top - 6)}}
		for k, s := range slots {
			full := slices.Clone(slots)
			full[k].Free = part(top)
			gives(t, []api.Vector{part(6)}, []string{s.Node}, slots, full...)
			givesNot(t, api.ErrOver, []api.Vector{part(7)}, []string{s.Node}, slots...)
			givesNot(t, api.ErrOver, []api.Vector{part(top)}, []string{s.Node}, slots...)
			givesNot(t, api.ErrOver, []api.Vector{part(1)}, []string{s.Node}, full...)
			one := slices.Repeat([]string{s.Node}, 6)
			gives(t, slices.Repeat([]api.Vector{part(1)}, 6), one, slots, full...)
			for _, more := range []int{0, 3, 5} {
				tasks := slices.Repeat([]api.Vector{part(1)}, 6)
				tasks[more] = part(2)
				givesNot(t, api.ErrOver, tasks, one, slots...)
			}
			givesNot(t, api.ErrOver, slices.Repeat([]api.Vector{part(top)}, 6), one, slots...)
			givesNot(t, api.ErrOver, []api.Vector{part(3), part(4)}, one[:2], slots...)
			gives(t, []api.Vector{part(top)}, one[:1], []place.Slot{{Node: s.Node}}, place.Slot{Node: s.Node, Free: part(top)})
			givesNot(t, api.ErrOver, []api.Vector{part(top), part(1)}, one[:2], place.Slot{Node: s.Node})
		}
	}
}

// P16.2: what is free of one slot doesn't help another, and Fit's order of placing is not asked for.
func TestSlotsApart(t *testing.T) {
	slots := []place.Slot{slot("a", 1), slot("b", 9)}
	leavesNot(t, api.ErrOver, gang(1, 1), []string{"a", "a"}, slots...)
	leaves(t, gang(1, 1), []string{"b", "a"}, slots, slot("a"), slot("b", 8))
	leaves(t, gang(1, 1), []string{"b", "b"}, slots, slot("a", 1), slot("b", 7))
	givesNot(t, api.ErrOver, gang(top, 0), []string{"a", "b"}, slots...)
	gives(t, gang(top-9, 0), []string{"b", "b"}, slots, slot("a", 1), slot("b", top))
	givesNot(t, api.ErrOver, gang(0, 0, top-8), []string{"a", "a", "b"}, slots...)
}

// P16.2: there may be more slots than a heap has handles.
func TestVeryManySlotsChange(t *testing.T) {
	slots := make([]place.Slot, 1<<20+2)
	for i := range slots {
		slots[i] = slot(strconv.Itoa(i), 5)
	}
	last := len(slots) - 1
	nodes := []string{strconv.Itoa(last), "0"}
	want := slices.Clone(slots)
	want[0].Free, want[last].Free = vec(3), vec(4)
	leaves(t, gang(1, 2), nodes, slots, want...)
	want[0].Free, want[last].Free = vec(7), vec(6)
	gives(t, gang(1, 2), nodes, slots, want...)
	changesNot(t, api.ErrNone, gang(1), []string{strconv.Itoa(last + 1)}, slots...)
	slots[last].Node = "0"
	changesNot(t, api.ErrTwice, gang(1), []string{"0"}, slots...)
}
