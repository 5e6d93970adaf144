package dag_test

import (
	"slices"
	"testing"

	"drover/api"
	"drover/dag"
)

// P12.3: Done of what isn't there is ErrNone, of what isn't free, is done already or has failed ErrState.
func TestDoneErrors(t *testing.T) {
	g := dag.New()
	add(t, g, true, 1)
	add(t, g, false, 2, 1)
	add(t, g, true, 3)
	add(t, g, false, 4, 99)
	lacks(t, g, 5, 99)
	lacks(t, g, outside...)
	waits(t, g, 2, 4)
	does(t, g, 1, 2)
	waits(t, g, 1)
	fails(t, g, 3)
	waits(t, g, 3)
	free(t, g, 2)
}

// P12.3: Done tells those that are free by it, rising: children alone, and of these the ones that wait for nobody else.
func TestDoneFrees(t *testing.T) {
	g := dag.New()
	add(t, g, false, api.MaxJobs, 50)
	add(t, g, false, 1, 50)
	add(t, g, false, 30, 50, 50)
	add(t, g, false, 20, 50, 51)    // waits for 51 too
	add(t, g, false, 10, 50, 99)    // and for one that isn't there
	add(t, g, false, 40, 1)         // a child's child
	add(t, g, true, 60)             // free already
	add(t, g, true, 51)             // free already
	add(t, g, true, 50)             // not told itself
	add(t, g, false, 9, 50, 51, 60) // waits for two more
	add(t, g, false, 2, 50)
	fails(t, g, 2)
	does(t, g, 50, 1, 30, api.MaxJobs)
	waits(t, g, 20, 10, 40, 9)
	does(t, g, 60)
	does(t, g, 51, 9, 20)
	does(t, g, 1, 40)
}

// P12.3: a line is done from its first to its last, each freeing the next.
func TestDoneLine(t *testing.T) {
	g := dag.New()
	for id := int64(api.MaxJobs); id > 1; id-- {
		add(t, g, false, id, id-1)
	}
	add(t, g, true, 1)
	for id := int64(1); id < api.MaxJobs; id++ {
		does(t, g, id, id+1)
	}
	does(t, g, api.MaxJobs)
}

// P12.3: one job frees all others.
func TestDoneFan(t *testing.T) {
	for _, hub := range []int64{1, 50, api.MaxJobs} {
		g := dag.New()
		others := slices.DeleteFunc(through(1, api.MaxJobs), func(id int64) bool { return id == hub })
		slices.Reverse(others)
		for _, id := range others {
			add(t, g, false, id, hub)
		}
		slices.Reverse(others)
		add(t, g, true, hub)
		does(t, g, hub, others...)
	}
}

// P12.3: Fail of what isn't there is ErrNone, of what is done or has failed ErrState; what is open may fail, free or not.
func TestFailErrors(t *testing.T) {
	g := dag.New()
	add(t, g, true, 1)
	add(t, g, false, 2, 1)
	add(t, g, true, 3)
	add(t, g, false, 4, 99)
	add(t, g, true, 5)
	lacks(t, g, 6, 99)
	lacks(t, g, outside...)
	fails(t, g, 2)
	does(t, g, 1)
	ended(t, g, 1, 2)
	fails(t, g, 3)
	fails(t, g, 4)
	lacks(t, g, 99)
	free(t, g, 5)
}

// P12.3: all below a job fail with it, however long the line, whichever way the numbers run.
func TestFailLine(t *testing.T) {
	for _, up := range []bool{true, false} {
		g := dag.New()
		number := func(i int64) int64 {
			if up {
				return i
			}
			return api.MaxJobs + 1 - i
		}
		add(t, g, true, number(1))
		for i := int64(2); i <= api.MaxJobs; i++ {
			add(t, g, false, number(i), number(i-1))
		}
		does(t, g, number(1), number(2))
		var below []int64
		for i := int64(41); i <= api.MaxJobs; i++ {
			below = append(below, number(i))
		}
		slices.Sort(below)
		fails(t, g, number(40), below...)
		free(t, g, number(2))
		waits(t, g, number(3), number(39))
		below = nil
		for i := int64(3); i <= 39; i++ {
			below = append(below, number(i))
		}
		slices.Sort(below)
		fails(t, g, number(2), below...)
	}
}

// P12.3: what is on several ways below a job is told once; what is above or beside it is left.
func TestFailOnce(t *testing.T) {
	g := dag.New()
	add(t, g, true, 9)
	add(t, g, false, 8, 9)
	add(t, g, false, 7, 9, 8)
	add(t, g, false, 3, 7, 8)
	add(t, g, false, 2, 3, 7, 8, 9)
	add(t, g, true, 10)
	add(t, g, false, 1, 10, 3)
	add(t, g, false, 4, 10, 9)
	add(t, g, false, 5, 10)
	fails(t, g, 8, 1, 2, 3, 7)
	free(t, g, 9, 10)
	does(t, g, 10, 5)
	does(t, g, 9, 4)
}

// P12.3: what has failed already below a job isn't told again, and nothing fails that is done.
func TestFailBelowEnded(t *testing.T) {
	g := dag.New()
	add(t, g, true, 1)
	add(t, g, true, 2, []int64{}...)
	add(t, g, false, 3, 1, 2)
	add(t, g, false, 4, 2)
	add(t, g, false, 5, 3, 4)
	add(t, g, false, 6, 5)
	add(t, g, false, 7, 4)
	does(t, g, 1)
	fails(t, g, 5, 6)
	fails(t, g, 2, 3, 4, 7)
	ended(t, g, 1, 2, 3, 4, 5, 6, 7)
}

// P12.3: below a job one that failed ahead of it may hide none that is open.
func TestFailPastFailed(t *testing.T) {
	g := dag.New()
	add(t, g, false, 3, 2)
	add(t, g, false, 4, 2)
	add(t, g, false, 5, 4)
	fails(t, g, 3)
	add(t, g, false, 2, 1) // comes behind its children, of which one has failed
	add(t, g, true, 1)
	fails(t, g, 1, 2, 4, 5)
}

// P12.3: what waits for a job that isn't there descends from what that waits for as soon as it comes, not ahead of that.
func TestFailThroughAbsent(t *testing.T) {
	g := dag.New()
	add(t, g, true, 1)
	add(t, g, false, 3, 2)
	fails(t, g, 1)
	waits(t, g, 3)
	refused(t, g, api.ErrState, 2, 1)
	waits(t, g, 3)
	add(t, g, true, 4)
	add(t, g, false, 2, 4)
	fails(t, g, 4, 2, 3)
}

// P12.3: two parents that fail one behind the other fail their child once.
func TestFailTwoParents(t *testing.T) {
	g := dag.New()
	add(t, g, true, 1)
	add(t, g, true, 2)
	add(t, g, false, 3, 1, 2)
	fails(t, g, 2, 3)
	does(t, g, 1) // 3 has failed: it isn't free by that
	ended(t, g, 3)
}
