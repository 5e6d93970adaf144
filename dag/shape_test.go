package dag

import (
	"math/rand"
	"testing"

	"drover/api"
)

// sound asks of g that nothing is kept of numbers without a job, that what is done has only parents that are, and that nothing is open below what has failed.
func sound(t *testing.T, g *Graph) {
	t.Helper()
	if g.jobs[0] != (job{}) {
		t.Fatal("there is a job 0")
	}
	for id, j := range g.jobs {
		if j.state == absent && j.parents != (set{}) {
			t.Fatalf("parents of %d are kept, though it isn't there", id)
		}
		if g.lineage(j.parents)[id] {
			t.Fatalf("%d descends from itself", id)
		}
		for parent, is := range j.parents {
			if is && j.state == done && g.jobs[parent].state != done {
				t.Fatalf("%d is done ahead of its parent %d", id, parent)
			}
			if is && j.state != failed && g.jobs[parent].state == failed {
				t.Fatalf("%d has not failed with its parent %d", id, parent)
			}
		}
	}
}

// P12.4, R4: behind each call the graph is sound, and behind one that answers an error it is as it was.
func TestShape(t *testing.T) {
	for seed := range int64(60) {
		r := rand.New(rand.NewSource(seed))
		some := func() int64 { return r.Int63n(api.MaxJobs+2) / (1 + seed%7) }
		g := New()
		for range 300 {
			before := *g
			var e api.Errno
			switch n := r.Intn(10); {
			case n < 6:
				_, e = g.Add(some(), []int64{some(), some(), some()}[:r.Intn(4)]...)
			case n < 9:
				_, e = g.Done(some())
			default:
				_, e = g.Fail(some())
			}
			if (e == api.OK) == (*g == before) {
				t.Fatalf("behind the error %d the graph is as it was: %v", e, *g == before)
			}
			sound(t, g)
		}
	}
}

// P12.1: asking leaves the graph as it was.
func TestAskingLeaves(t *testing.T) {
	g := New()
	g.Add(1)
	g.Add(2, 1, 3)
	before := *g
	for id := range int64(size + 1) {
		g.Parents(id)
		g.Free(id)
	}
	if *g != before {
		t.Fatal("asking has changed the graph")
	}
}
