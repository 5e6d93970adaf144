package dag_test

import (
	"testing"

	"drover/api"
	"drover/dag"
)

// P12.2: a job may have any number from 1 to MaxJobs; all of them may be there.
func TestAddNumbers(t *testing.T) {
	g := dag.New()
	for _, id := range outside {
		refused(t, g, api.ErrRange, id)
		refused(t, g, api.ErrRange, id, 1)
	}
	for _, id := range through(1, api.MaxJobs) {
		lacks(t, g, id)
		add(t, g, true, id)
	}
	for _, id := range outside {
		refused(t, g, api.ErrRange, id)
		lacks(t, g, id)
	}
}

// P12.2: each parent must be 1 to MaxJobs, wherever it stands among them.
func TestAddParentNumbers(t *testing.T) {
	g := dag.New()
	for _, id := range outside {
		refused(t, g, api.ErrRange, 1, id)
		refused(t, g, api.ErrRange, 1, 2, 3, id)
		refused(t, g, api.ErrRange, 1, id, 2, 3)
		refused(t, g, api.ErrRange, 1, 2, id, 2)
	}
	lacks(t, g, through(1, api.MaxJobs)...)
	add(t, g, false, 1, api.MaxJobs, 2)
	add(t, g, true, api.MaxJobs)
	add(t, g, false, 50, 1, api.MaxJobs)
}

// P12.2: a job that is added twice is as it was at first, whatever has become of it.
func TestAddTwice(t *testing.T) {
	g := dag.New()
	add(t, g, true, 1)
	refused(t, g, api.ErrTwice, 1)
	refused(t, g, api.ErrTwice, 1, 2)
	free(t, g, 1)
	add(t, g, false, 2, 1, 9)
	refused(t, g, api.ErrTwice, 2, 1, 9)
	refused(t, g, api.ErrTwice, 2)
	has(t, g, 2, 1, 9)
	does(t, g, 1)
	refused(t, g, api.ErrTwice, 1)
	ended(t, g, 1)
	fails(t, g, 2)
	refused(t, g, api.ErrTwice, 2)
	ended(t, g, 2)
}

// P12.2: parents that are not there yet, and come later, are waited for.
func TestAddAhead(t *testing.T) {
	g := dag.New()
	add(t, g, false, 1, 2, 3)
	add(t, g, true, 3)
	does(t, g, 3)
	waits(t, g, 1)
	add(t, g, false, 2, 4)
	waits(t, g, 1, 2)
	add(t, g, true, 4)
	does(t, g, 4, 2)
	waits(t, g, 1)
	does(t, g, 2, 1)
}

// P12.2: a job whose parents are all done is free at once; where one is open, or isn't there, it isn't.
func TestAddFree(t *testing.T) {
	g := dag.New()
	add(t, g, true, 1)
	add(t, g, true, 2)
	does(t, g, 1)
	add(t, g, true, 3, 1)
	add(t, g, false, 4, 1, 2)
	add(t, g, false, 5, 1, 99)
	add(t, g, false, 6, 2, 99)
	does(t, g, 2, 4)
	add(t, g, true, 7, 2, 1, 2)
	add(t, g, false, 8, 3, 1)
}

// P12.2: a job that is its own parent is a circle, also among others and twice.
func TestCircleOfOne(t *testing.T) {
	g := dag.New()
	for _, id := range []int64{1, 2, api.MaxJobs} {
		refused(t, g, api.ErrCycle, id, id)
		refused(t, g, api.ErrCycle, id, 50, id)
		refused(t, g, api.ErrCycle, id, id, 50, id)
		lacks(t, g, id, 50)
		add(t, g, true, id)
	}
}

// P12.2: two that would wait for each other are a circle, whichever is first; behind the refusal both may be there otherwise.
func TestCircleOfTwo(t *testing.T) {
	for _, x := range [][2]int64{{1, 2}, {2, 1}, {1, api.MaxJobs}, {api.MaxJobs, 1}} {
		g := dag.New()
		a, b := x[0], x[1]
		add(t, g, false, a, b)
		refused(t, g, api.ErrCycle, b, a)
		refused(t, g, api.ErrCycle, b, 50, a)
		lacks(t, g, b)
		add(t, g, false, b, 50)
		add(t, g, true, 50)
		does(t, g, 50, b)
		does(t, g, b, a)
	}
}

// orders calls what it is given with each order of 0 to n - 1.
func orders(n int, use func([]int)) {
	var grow func([]int)
	grow = func(order []int) {
		if len(order) == n {
			use(order)
			return
		}
	next:
		for i := range n {
			for _, j := range order {
				if i == j {
					continue next
				}
			}
			grow(append(order[:len(order):len(order)], i))
		}
	}
	grow(nil)
}

// P12.2: a circle of three, four and five jobs is refused at the job that would close it, in whatever order they come; without that one there is none.
func TestCircleOfMore(t *testing.T) {
	for n := 3; n <= 5; n++ {
		orders(n, func(order []int) {
			g := dag.New()
			for at, i := range order {
				id, parent := int64(i+1), int64((i+1)%n+1)
				if at < n-1 {
					add(t, g, false, id, parent)
				} else {
					refused(t, g, api.ErrCycle, id, parent)
					refused(t, g, api.ErrCycle, id, 50, parent, 51)
					lacks(t, g, id)
					add(t, g, true, id)
				}
			}
		})
	}
}

// P12.2: a circle of all MaxJobs jobs is one too.
func TestCircleOfAll(t *testing.T) {
	g := dag.New()
	for id := int64(1); id < api.MaxJobs; id++ {
		add(t, g, false, id, id+1)
	}
	for _, parent := range []int64{1, 2, 50, api.MaxJobs - 1, api.MaxJobs} {
		refused(t, g, api.ErrCycle, api.MaxJobs, parent)
	}
	add(t, g, true, api.MaxJobs)
}

// P12.2: what is on several ways above a job is no circle, nor what is on none.
func TestNoCircle(t *testing.T) {
	g := dag.New()
	add(t, g, true, 1)
	add(t, g, false, 2, 1)
	add(t, g, false, 3, 1)
	add(t, g, false, 4, 2, 3)
	add(t, g, false, 5, 4, 3, 2, 1)
	add(t, g, false, 7, 6)
	add(t, g, false, 6, 5, 4) // its child 7 is above none of these
	add(t, g, false, 8, 7, 1)
}

// P12.2: a job that isn't there has no parents, so that no circle goes through it until it is there.
func TestCircleThroughAbsent(t *testing.T) {
	g := dag.New()
	add(t, g, false, 1, 2)
	add(t, g, false, 3, 4)
	add(t, g, false, 2, 3)
	refused(t, g, api.ErrCycle, 4, 1)
	refused(t, g, api.ErrCycle, 4, 2)
	refused(t, g, api.ErrCycle, 4, 3)
	add(t, g, false, 4, 5)
	refused(t, g, api.ErrCycle, 5, 1)
	add(t, g, true, 5, []int64{}...)
}

// P12.2: what is left of a job that was refused is nothing: it is above none.
func TestRefusedIsNowhere(t *testing.T) {
	g := dag.New()
	add(t, g, false, 1, 2)
	refused(t, g, api.ErrCycle, 2, 1, 3)
	refused(t, g, api.ErrRange, 2, 3, 0)
	add(t, g, false, 3, 1) // 2 doesn't wait for 3
	refused(t, g, api.ErrCycle, 2, 3)
	add(t, g, true, 2)
}

// P12.2: a parent that is there and has failed is refused, by itself or behind another; one that is open, done or not there isn't.
func TestAddBelowFailed(t *testing.T) {
	g := dag.New()
	add(t, g, true, 1)
	add(t, g, false, 2, 1)
	add(t, g, true, 3)
	add(t, g, true, 4)
	fails(t, g, 1, 2)
	does(t, g, 3)
	for _, parents := range [][]int64{{1}, {2}, {1, 2}, {3, 1}, {2, 3}, {4, 1}, {1, 99}, {99, 2, 2}} {
		refused(t, g, api.ErrState, 10, parents...)
	}
	lacks(t, g, 10)
	add(t, g, false, 10, 3, 4, 99)
}

// P12.2: where several errors apply, it is the first of ErrRange, ErrTwice, ErrCycle, ErrState.
func TestAddFirstError(t *testing.T) {
	g := dag.New()
	add(t, g, false, 1, 2)
	add(t, g, true, 3)
	fails(t, g, 3)
	refused(t, g, api.ErrRange, 0, 0)
	refused(t, g, api.ErrRange, 1, 0)        // and there already
	refused(t, g, api.ErrRange, 1, 1, 0)     // and its own parent
	refused(t, g, api.ErrRange, 2, 3, 1, -1) // and a circle, below one that failed
	refused(t, g, api.ErrRange, 101, 101)    // and its own parent
	refused(t, g, api.ErrTwice, 1, 1)        // and its own parent
	refused(t, g, api.ErrTwice, 1, 3)        // and below one that failed
	refused(t, g, api.ErrTwice, 3, 3)        // and both
	refused(t, g, api.ErrCycle, 2, 3, 1)     // and below one that failed
	refused(t, g, api.ErrCycle, 2, 1, 3)
	refused(t, g, api.ErrCycle, 4, 3, 4)
	refused(t, g, api.ErrState, 4, 3)
}

// P12.2: a circle through jobs that have failed is a circle, ahead of their having failed.
func TestCircleThroughFailed(t *testing.T) {
	g := dag.New()
	add(t, g, false, 1, 2)
	add(t, g, false, 3, 1)
	fails(t, g, 1, 3)
	refused(t, g, api.ErrCycle, 2, 1)
	refused(t, g, api.ErrCycle, 2, 3)
	refused(t, g, api.ErrState, 4, 3)
	add(t, g, true, 2)
	ended(t, g, 1, 3)
	does(t, g, 2)
}
