package dag_test

import (
	"math"
	"slices"
	"testing"

	"drover/api"
	"drover/dag"
)

// outside are numbers that no job may have.
var outside = []int64{math.MinInt64, -1 << 32, -api.MaxJobs, -2, -1, 0, api.MaxJobs + 1, 127, 128, 255, 256, 257, 1<<32 + 1, math.MaxInt64}

// add adds a job, and asks that it is there with its parents.
func add(t *testing.T, g *dag.Graph, free bool, id int64, parents ...int64) {
	t.Helper()
	if got, e := g.Add(id, parents...); got != free || e != api.OK {
		t.Fatalf("Add(%d, %v) = %v, %d, not %v", id, parents, got, e, free)
	}
	if g.Free(id) != free {
		t.Fatalf("Free(%d) = %v", id, !free)
	}
	want := slices.Clone(parents)
	slices.Sort(want)
	has(t, g, id, slices.Compact(want)...)
}

// refused asks that a job is not added, and that what is there under its number is as it was.
func refused(t *testing.T, g *dag.Graph, want api.Errno, id int64, parents ...int64) {
	t.Helper()
	list, e := g.Parents(id)
	free := g.Free(id)
	if got, e := g.Add(id, parents...); got || e != want {
		t.Fatalf("Add(%d, %v) = %v, %d, not %d", id, parents, got, e, want)
	}
	if list2, e2 := g.Parents(id); e2 != e || !slices.Equal(list2, list) || g.Free(id) != free {
		t.Fatalf("Add(%d, %v) was refused, but the job is another", id, parents)
	}
}

// has asks that a job is there, with just these parents.
func has(t *testing.T, g *dag.Graph, id int64, parents ...int64) {
	t.Helper()
	if got, e := g.Parents(id); !slices.Equal(got, parents) || e != api.OK {
		t.Fatalf("Parents(%d) = %v, %d, not %v", id, got, e, parents)
	}
}

// lacks asks that there are no jobs of these numbers, by every call that says so.
func lacks(t *testing.T, g *dag.Graph, ids ...int64) {
	t.Helper()
	for _, id := range ids {
		if g.Free(id) {
			t.Fatalf("Free(%d), but there is no such job", id)
		}
		if got, e := g.Parents(id); len(got) != 0 || e != api.ErrNone {
			t.Fatalf("Parents(%d) = %v, %d, not ErrNone", id, got, e)
		}
		if got, e := g.Done(id); len(got) != 0 || e != api.ErrNone {
			t.Fatalf("Done(%d) = %v, %d, not ErrNone", id, got, e)
		}
		if got, e := g.Fail(id); len(got) != 0 || e != api.ErrNone {
			t.Fatalf("Fail(%d) = %v, %d, not ErrNone", id, got, e)
		}
	}
}

// does has a job be done, and asks what is free by that.
func does(t *testing.T, g *dag.Graph, id int64, want ...int64) {
	t.Helper()
	if got, e := g.Done(id); !slices.Equal(got, want) || e != api.OK {
		t.Fatalf("Done(%d) = %v, %d, not %v", id, got, e, want)
	}
	free(t, g, want...)
	ended(t, g, id)
}

// fails has a job fail, and asks what has failed by that.
func fails(t *testing.T, g *dag.Graph, id int64, want ...int64) {
	t.Helper()
	if got, e := g.Fail(id); !slices.Equal(got, want) || e != api.OK {
		t.Fatalf("Fail(%d) = %v, %d, not %v", id, got, e, want)
	}
	ended(t, g, append([]int64{id}, want...)...)
}

// free asks that jobs are free.
func free(t *testing.T, g *dag.Graph, ids ...int64) {
	t.Helper()
	for _, id := range ids {
		if !g.Free(id) {
			t.Fatalf("Free(%d) is false", id)
		}
	}
}

// waits asks that jobs are there, but not free: they can't be done.
func waits(t *testing.T, g *dag.Graph, ids ...int64) {
	t.Helper()
	for _, id := range ids {
		if g.Free(id) {
			t.Fatalf("Free(%d) is true", id)
		}
		if got, e := g.Done(id); len(got) != 0 || e != api.ErrState {
			t.Fatalf("Done(%d) = %v, %d, not ErrState", id, got, e)
		}
	}
}

// ended asks that jobs are there, and neither free nor open: they can't be done or fail.
func ended(t *testing.T, g *dag.Graph, ids ...int64) {
	t.Helper()
	waits(t, g, ids...)
	for _, id := range ids {
		if got, e := g.Fail(id); len(got) != 0 || e != api.ErrState {
			t.Fatalf("Fail(%d) = %v, %d, not ErrState", id, got, e)
		}
	}
}

// through answers the numbers from first to last.
func through(first, last int64) []int64 {
	var ids []int64
	for id := first; id <= last; id++ {
		ids = append(ids, id)
	}
	return ids
}

// P12.1 to P12.3: the chapter's examples.
func TestExamples(t *testing.T) {
	g := dag.New()
	add(t, g, true, 1)
	add(t, g, false, 2, 1, 3)
	refused(t, g, api.ErrCycle, 3, 2)
	add(t, g, true, 3)
	waits(t, g, 2)
	does(t, g, 1)
	does(t, g, 3, 2)
	add(t, g, false, 4, 2)
	add(t, g, false, 5, 4)
	fails(t, g, 2, 4, 5)
	refused(t, g, api.ErrState, 6, 5)
}

// P12.1: a new graph has no job of any number.
func TestNew(t *testing.T) {
	g := dag.New()
	lacks(t, g, outside...)
	lacks(t, g, through(1, api.MaxJobs)...)
}

// P12.1: of what isn't there Parents answers ErrNone and Free false, whoever names it as a parent.
func TestNoSuchJob(t *testing.T) {
	g := dag.New()
	add(t, g, false, 2, 1, 3, api.MaxJobs)
	lacks(t, g, 1, 3, 4, api.MaxJobs)
	lacks(t, g, outside...)
	has(t, g, 2, 1, 3, api.MaxJobs)
}

// P12.1: parents are told rising and each once, in whatever order and how often they are handed in.
func TestParents(t *testing.T) {
	for _, x := range []struct{ in, want []int64 }{
		{nil, nil},
		{[]int64{}, nil},
		{[]int64{1}, []int64{1}},
		{[]int64{1, 1}, []int64{1}},
		{[]int64{api.MaxJobs}, []int64{api.MaxJobs}},
		{[]int64{9, 8, 7}, []int64{7, 8, 9}},
		{[]int64{9, 8, 9, 7, 8, 9}, []int64{7, 8, 9}},
		{[]int64{100, 1, 99, 2, 10, 11}, []int64{1, 2, 10, 11, 99, 100}},
		{[]int64{64, 63, 65, 32, 31, 33}, []int64{31, 32, 33, 63, 64, 65}},
	} {
		g := dag.New()
		add(t, g, len(x.in) == 0, 50, x.in...)
		has(t, g, 50, x.want...)
	}
}

// P12.1: a job may have more than MaxParents parents, all others at most; they stay, whatever becomes of it.
func TestManyParents(t *testing.T) {
	g := dag.New()
	others := through(1, api.MaxJobs-1)
	falling := slices.Clone(others)
	slices.Reverse(falling)
	var many []int64
	for range 50 {
		many = append(append(many, falling...), others...)
	}
	add(t, g, false, api.MaxJobs, many...)
	has(t, g, api.MaxJobs, others...)
	for _, id := range others {
		add(t, g, true, id)
	}
	for _, id := range others[1:] {
		does(t, g, id)
		waits(t, g, api.MaxJobs)
	}
	does(t, g, 1, api.MaxJobs)
	has(t, g, api.MaxJobs, others...)
	does(t, g, api.MaxJobs)
	has(t, g, api.MaxJobs, others...)
}

// P12.1: Free tells what is open with all parents there and done, of no others.
func TestFree(t *testing.T) {
	g := dag.New()
	add(t, g, false, 1, 2)
	waits(t, g, 1) // its parent isn't there
	add(t, g, true, 2)
	waits(t, g, 1) // its parent is open
	does(t, g, 2, 1)
	free(t, g, 1) // its parent is done
	does(t, g, 1)
	add(t, g, true, 3, 1, 2)
	free(t, g, 3)
	fails(t, g, 3)
}

// P12.1, P12.3: asking changes nothing.
func TestAsking(t *testing.T) {
	g := dag.New()
	add(t, g, true, 1)
	add(t, g, false, 2, 1)
	for range 3 {
		has(t, g, 1)
		has(t, g, 2, 1)
		free(t, g, 1)
		waits(t, g, 2)
		lacks(t, g, 3)
	}
	does(t, g, 1, 2)
}

// P12.4: a nil graph has no jobs: Add answers ErrState whatever it is given, all else ErrNone or nothing.
func TestNil(t *testing.T) {
	var g *dag.Graph
	ids := append(through(1, api.MaxJobs), outside...)
	for _, id := range ids {
		refused(t, g, api.ErrState, id)
		refused(t, g, api.ErrState, id, id)
		refused(t, g, api.ErrState, 1, 2, id)
	}
	lacks(t, g, ids...)
}

// P12.4: the zero graph is as New's.
func TestZero(t *testing.T) {
	var g dag.Graph
	lacks(t, &g, outside...)
	lacks(t, &g, through(1, api.MaxJobs)...)
	add(t, &g, false, 2, 1)
	refused(t, &g, api.ErrCycle, 1, 2)
	add(t, &g, true, 1)
	does(t, &g, 1, 2)
	add(t, &g, false, 3, 2)
	fails(t, &g, 2, 3)
}

// R7: two graphs don't hang on one another, nor does a copy on what it is of.
func TestApart(t *testing.T) {
	a, b := dag.New(), dag.New()
	add(t, a, true, 1)
	lacks(t, b, 1)
	add(t, b, false, 1, 2)
	add(t, a, false, 2, 1)
	c := *a
	fails(t, a, 1, 2)
	free(t, &c, 1)
	does(t, &c, 1, 2)
	ended(t, a, 1, 2)
	waits(t, b, 1)
	lacks(t, b, 2)
}

// R5: what is handed in is left as it is, its spare room too, and isn't kept.
func TestHandedIn(t *testing.T) {
	g := dag.New()
	room := []int64{9, 7, 7, 3, 55, 56}
	parents := room[:4]
	add(t, g, false, 1, parents...)
	if !slices.Equal(room, []int64{9, 7, 7, 3, 55, 56}) {
		t.Fatalf("what was handed in is %v now", room)
	}
	clear(room)
	has(t, g, 1, 3, 7, 9)
	refused(t, g, api.ErrRange, 2, parents...)
	lacks(t, g, 2)
}

// R5: what is handed back is new memory, of which nothing is kept.
func TestHandedBack(t *testing.T) {
	g := dag.New()
	add(t, g, false, 2, 1, 5)
	add(t, g, false, 3, 1)
	add(t, g, false, 4, 1)
	add(t, g, false, 6, 3, 4)
	add(t, g, true, 1)
	spoil := func(ids []int64, _ api.Errno) {
		ids = ids[:cap(ids)]
		for i := range ids {
			ids[i] = 77
		}
	}
	first, _ := g.Parents(2)
	spoil(g.Parents(2))
	if !slices.Equal(first, []int64{1, 5}) {
		t.Fatalf("a list that was answered is %v now", first)
	}
	has(t, g, 2, 1, 5)
	spoil(g.Done(1))
	free(t, g, 3, 4)
	waits(t, g, 2, 6)
	spoil(g.Fail(3))
	ended(t, g, 3, 6)
	free(t, g, 4)
	has(t, g, 6, 3, 4)
	lacks(t, g, 77)
}
