package place_test

import (
	"fmt"
	"math"
	"slices"
	"strconv"
	"strings"
	"testing"

	"drover/api"
	"drover/place"
)

const top = api.MaxAmount

func vec(numbers ...int64) api.Vector {
	var v api.Vector
	copy(v[:], numbers)
	return v
}

func slot(node string, free ...int64) place.Slot {
	return place.Slot{Node: node, Free: vec(free...)}
}

// gang is tasks of the first resource alone.
func gang(numbers ...int64) []api.Vector {
	var tasks []api.Vector
	for _, n := range numbers {
		tasks = append(tasks, vec(n))
	}
	return tasks
}

// noAmounts are numbers that no formed vector has: just outside of what is allowed, and far from it.
func noAmounts() []int64 {
	return []int64{-1, top + 1, -top, 2 * top, 1 << 41, math.MinInt64, math.MinInt64 + 1, math.MaxInt64}
}

// unformed are vectors with one number that no formed one has, at each place.
func unformed() []api.Vector {
	var l []api.Vector
	for _, n := range noAmounts() {
		for i := range 4 {
			v := vec(1, 1, 1, 1)
			v[i] = n
			l = append(l, v)
		}
	}
	return l
}

// strange are names that any node may have, though some are no texts; all unlike.
func strange() []string {
	long := strings.Repeat("x", 100000)
	return []string{"", "\x00", "\x00\x00", "\n", "\x1b", " ", `"`, "A", "Node", `\`, "a", "a\x00b", "a\x00c", "a b", "aa", "ab", "b", "node-1", long, long + "y", long + "z", "\x7f", "\x80", "\xc3", "é", "e\u0301", "α", "\u2028", "\xed\xa0\x80", "\ufffd", "\uffff", "\U00010000", "\U0010ffff", "\xff", "\xff\xfe"}
}

// shown is slots as text, of their names no more than the beginning.
func shown(l []place.Slot) string {
	var out strings.Builder
	for i, s := range l {
		if i == 20 {
			fmt.Fprintf(&out, " and %d more", len(l)-i)
			break
		}
		fmt.Fprintf(&out, "{%.20q %v}", s.Node, s.Free)
	}
	return out.String()
}

// fits asks that Fit answers these nodes.
func fits(t *testing.T, tasks []api.Vector, slots []place.Slot, want ...string) {
	t.Helper()
	if got, e := place.Fit(tasks, slots...); !slices.Equal(got, want) || e != api.OK {
		t.Fatalf("Fit(%v, %s) = %.40q, %d, not %.40q", tasks, shown(slots), got, e, want)
	}
}

// fitsNot asks that Fit refuses so.
func fitsNot(t *testing.T, want api.Errno, tasks []api.Vector, slots ...place.Slot) {
	t.Helper()
	if got, e := place.Fit(tasks, slots...); len(got) != 0 || e != want {
		t.Fatalf("Fit(%v, %s) = %.40q, %d, not %d", tasks, shown(slots), got, e, want)
	}
}

// orders calls each with every order of l.
func orders[T any](l []T, each func([]T)) {
	var grow func(done, left []T)
	grow = func(done, left []T) {
		if len(left) == 0 {
			each(done)
			return
		}
		for i, x := range left {
			grow(append(slices.Clone(done), x), slices.Delete(slices.Clone(left), i, i+1))
		}
	}
	grow(nil, l)
}

// P16.1, P16.2: the chapter's examples.
func TestExamples(t *testing.T) {
	slots := []place.Slot{slot("a", 3), slot("b", 3)}
	fits(t, gang(1, 3, 2), slots, "b", "a", "b")
	fitsNot(t, api.ErrFull, gang(2, 2), slot("a", 3))
	leaves(t, gang(1, 3, 2), []string{"b", "a", "b"}, slots, slot("a"), slot("b"))
	gives(t, gang(1, 3, 2), []string{"b", "a", "b"}, []place.Slot{slot("a"), slot("b")}, slots...)
}

// P16.1: no task and one more than MaxTasks are none that fit; one, and as many as MaxTasks, are.
func TestHowManyTasks(t *testing.T) {
	slots := []place.Slot{slot("a", top, top, top, top), slot("b", 9)}
	for n := range 30 {
		tasks := make([]api.Vector, n)
		if n < 1 || n > api.MaxTasks {
			fitsNot(t, api.ErrRange, tasks, slots...)
			fitsNot(t, api.ErrRange, tasks)
			continue
		}
		fits(t, tasks, slots, slices.Repeat([]string{"a"}, n)...)
		fitsNot(t, api.ErrFull, tasks)
	}
	fitsNot(t, api.ErrRange, nil)
	fitsNot(t, api.ErrRange, []api.Vector{})
	fitsNot(t, api.ErrRange, make([]api.Vector, 1<<20), slots...)
}

// P16.1: no slot, one, and many: a task is on the first slot within which it is.
func TestHowManySlots(t *testing.T) {
	fitsNot(t, api.ErrFull, gang(0))
	fits(t, gang(0), []place.Slot{slot("a")}, "a")
	fitsNot(t, api.ErrFull, gang(1), slot("a"))
	var slots []place.Slot
	for i := range 3000 {
		slots = append(slots, slot(strconv.Itoa(i), int64(i)))
	}
	for _, n := range []int64{0, 1, 2, 1500, 2998, 2999} {
		fits(t, gang(n), slots, strconv.FormatInt(n, 10))
	}
	fitsNot(t, api.ErrFull, gang(3000), slots...)
	fits(t, gang(2999, 2999-1, 2999-2, 0, 1, 2), slots, "2999", "2998", "2997", "0", "1", "2")
	fits(t, gang(2997, 2997, 2997), slots, "2997", "2998", "2999")
	fitsNot(t, api.ErrFull, gang(2997, 2997, 2997, 2997), slots...)
}

// P16.1: there may be more slots than a heap has handles.
func TestVeryManySlots(t *testing.T) {
	slots := make([]place.Slot, 1<<20+2)
	for i := range slots {
		slots[i] = slot(strconv.Itoa(i), int64(i))
	}
	last := len(slots) - 1
	fits(t, gang(0, int64(last)), slots, "0", strconv.Itoa(last))
	fitsNot(t, api.ErrFull, gang(int64(last+1)), slots...)
	slots[last].Node = "0"
	fitsNot(t, api.ErrTwice, gang(0), slots...)
	slots[last].Free[3] = -1
	fitsNot(t, api.ErrForm, gang(0), slots...)
}

// P16.1: a task is within a slot, if each of its four numbers is, up to the last unit.
func TestWithin(t *testing.T) {
	free := vec(5, 6, 7, 8)
	for i := range 4 {
		for _, by := range []int64{-1, 0, 1} {
			task := free
			task[i] += by
			other := slot("other", 9, 9, 9, 9)
			slots := []place.Slot{{Node: "a", Free: free}, other}
			fits(t, []api.Vector{task}, slots, [...]string{"a", "a", "other"}[by+1])
			one := vec()
			one[i] = 1
			fits(t, []api.Vector{task, one}, slots, [...]string{"a", "a", "other"}[by+1], [...]string{"a", "other", "a"}[by+1])
		}
	}
	full := vec(top, top, top, top)
	fits(t, []api.Vector{full}, []place.Slot{{Node: "a", Free: full}}, "a")
	fitsNot(t, api.ErrFull, []api.Vector{full, vec(0, 0, 0, 1)}, place.Slot{Node: "a", Free: full})
	fits(t, []api.Vector{full, vec()}, []place.Slot{{Node: "a", Free: full}}, "a", "a")
	fitsNot(t, api.ErrFull, []api.Vector{full}, slot("a", top, top, top, top-1))
}

// P16.1: the tasks' turns are by the first number at which they are unlike, the greatest first, not by their sum or their greatest.
func TestTurns(t *testing.T) {
	slots := []place.Slot{slot("a", 9, 9, 9, 9), slot("b", 9, 9, 9, 9)}
	// Were 8 of the second resource first, it would be on a.
	fits(t, []api.Vector{vec(0, 8), vec(1, 2)}, slots, "b", "a")
	fits(t, []api.Vector{vec(0, 8, 9, 9), vec(0, 9)}, slots, "b", "a")
	fits(t, []api.Vector{vec(2, 2, 3, 5), vec(2, 2, 4, 5)}, slots, "b", "a")
	fits(t, []api.Vector{vec(2, 2, 3, 5), vec(2, 2, 4, 4)}, slots, "a", "a")
	fits(t, []api.Vector{vec(2, 2, 3, 5), vec(2, 2, 7, 0)}, slots, "b", "a")
	fits(t, []api.Vector{vec(2, 2, 7, 4), vec(2, 2, 7, 6)}, slots, "b", "a")
	fits(t, []api.Vector{vec(2, 2, 7, 6), vec(2, 2, 7, 4)}, slots, "a", "b")
}

// P16.1: of like tasks the one with the less number comes first.
func TestLikeTasks(t *testing.T) {
	slots := []place.Slot{slot("a", 2), slot("b", 4), slot("c", 6), slot("d", 9)}
	fits(t, gang(2, 2, 2, 2, 2, 2), slots, "a", "b", "b", "c", "c", "c")
	fits(t, gang(4, 4), slots, "b", "c")
	fits(t, gang(2, 4, 2, 4, 2), slots, "a", "b", "c", "c", "d")
	fits(t, gang(0, 0, 0, 0, 0, 0), slots, "a", "a", "a", "a", "a", "a")
	fits(t, gang(3, 1, 3, 1, 3, 1), slots, "b", "a", "c", "a", "c", "b")
}

// P16.1: each task of a gang of unlike ones is where it is in every order; of like ones the first is where the first of them is.
func TestEveryOrder(t *testing.T) {
	slots := []place.Slot{slot("a", 3), slot("b", 6), slot("c", 7), slot("d", 9)}
	where := map[int64][]string{9: {"d"}, 6: {"b"}, 4: {"c"}, 3: {"a", "c"}, 0: {"a"}}
	count := 0
	orders(gang(9, 6, 4, 3, 3, 0), func(tasks []api.Vector) {
		met := map[int64]int{}
		var want []string
		for _, v := range tasks {
			want = append(want, where[v[0]][met[v[0]]])
			met[v[0]]++
		}
		fits(t, tasks, slots, want...)
		count++
	})
	if count != 720 {
		t.Fatalf("%d orders", count)
	}
}

// P16.1: a gang of which all but the last task finds room finds none, in every order, and each part of it does.
func TestAllButTheLast(t *testing.T) {
	slots := []place.Slot{slot("a", 5, 1), slot("b", 5, 1)}
	orders([]api.Vector{vec(5), vec(3), vec(2), vec(0, 1), vec(0, 1), vec(0, 1)}, func(tasks []api.Vector) {
		fitsNot(t, api.ErrFull, tasks, slots...)
		i := slices.Index(tasks, vec(0, 1))
		if l, e := place.Fit(slices.Delete(slices.Clone(tasks), i, i+1), slots...); len(l) != 5 || e != api.OK {
			t.Fatalf("Fit of all but one = %q, %d", l, e)
		}
	})
}

// P16.1: placing is by turns alone: there is no other try, though another way of placing would find room.
func TestNoOtherTry(t *testing.T) {
	// The greatest is on a, and so the others find no room; on b there would be.
	fitsNot(t, api.ErrFull, []api.Vector{vec(2), vec(1, 5)}, slot("a", 2, 5), slot("b", 2))
	fits(t, []api.Vector{vec(2), vec(1, 5)}, []place.Slot{slot("b", 2), slot("a", 2, 5)}, "b", "a")
	fitsNot(t, api.ErrFull, gang(4, 3, 2), slot("a", 5), slot("b", 4))
	fits(t, gang(4, 3, 2), []place.Slot{slot("b", 4), slot("a", 5)}, "b", "a", "a")
}

// P16.1: the slots' order is as they are handed in, whatever they are called and have.
func TestSlotsOrder(t *testing.T) {
	orders([]place.Slot{slot("b", 9), slot("a", 5), slot("", 7), slot("z", 5)}, func(slots []place.Slot) {
		fits(t, gang(5), slots, slots[0].Node)
		fits(t, gang(1, 2, 1), slots, slots[0].Node, slots[0].Node, slots[0].Node)
	})
	fits(t, gang(5, 5), []place.Slot{slot("z", 5), slot("a", 5), slot("b", 9)}, "z", "a")
}

// P16.1, P16.2: any bytes are a node's name, and no two unlike ones are one.
func TestStrangeNames(t *testing.T) {
	names := strange()
	var slots, none []place.Slot
	for i, name := range names {
		slots = append(slots, slot(name, int64(i)))
		none = append(none, slot(name))
	}
	for i, name := range names {
		n := int64(i)
		fits(t, gang(n), slots, name)
		left := slices.Clone(slots)
		left[i].Free[0] = 0
		leaves(t, gang(n), []string{name}, slots, left...)
		left = slices.Clone(none)
		left[i].Free[0] = n
		gives(t, gang(n), []string{name}, none, left...)
		twice := slot(strings.Clone(name), 3)
		refused(t, api.ErrTwice, gang(0), []string{""}, append(slices.Clone(slots), twice)...)
		refused(t, api.ErrTwice, gang(0), []string{""}, append([]place.Slot{twice}, slots...)...)
		without := slices.Delete(slices.Clone(slots), i, i+1)
		changesNot(t, api.ErrNone, gang(0), []string{name}, without...)
	}
}
