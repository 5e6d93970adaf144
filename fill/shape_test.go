package fill

import (
	"slices"
	"testing"

	"drover/api"
	"drover/place"
)

// P18.1: a course tells of each slot what is free at a tick, and the ticks at which that changes, rising, each once, with now ahead of them.
func TestCourse(t *testing.T) {
	whole := []place.Slot{{Node: "b", Free: api.Vector{9}}, {Node: "a", Free: api.Vector{5, 1}}}
	runs := []Run{
		{Job: 1, End: 8, Tasks: []api.Vector{{1}, {2}}, Nodes: []string{"a", "b"}},
		{Job: 2, End: 0, Tasks: []api.Vector{{0, 1}, {1}}, Nodes: []string{"a", "a"}},
		{Job: 3, End: 8, Tasks: []api.Vector{{4}}, Nodes: []string{"b"}},
		{Job: 4, End: 6, Tasks: []api.Vector{{}}, Nodes: []string{"a"}},
		{Job: 5, End: 7, Tasks: []api.Vector{{1}}, Nodes: []string{"b"}},
		{Job: 6, End: api.MaxNow, Tasks: []api.Vector{{1}}, Nodes: []string{"a"}},
	}
	c := foreseen(3, runs, whole)
	if got, want := c.ticks(), []int64{3, 4, 7, 8, api.MaxNow}; !slices.Equal(got, want) {
		t.Fatalf("the ticks are %d, not %d", got, want)
	}
	for tick, want := range map[int64][2]api.Vector{
		3:              {{2}, {2}},
		4:              {{2}, {3, 1}},
		6:              {{2}, {3, 1}},
		7:              {{3}, {3, 1}},
		8:              {{9}, {4, 1}},
		api.MaxNow - 1: {{9}, {4, 1}},
		api.MaxNow:     {{9}, {5, 1}},
	} {
		slots := []place.Slot{{Node: "b", Free: want[0]}, {Node: "a", Free: want[1]}}
		if got := c.at(tick); !slices.Equal(got, slots) {
			t.Fatalf("at %d the slots are %v, not %v", tick, got, slots)
		}
	}
	if got := []place.Slot{{Node: "b", Free: api.Vector{9}}, {Node: "a", Free: api.Vector{5, 1}}}; !slices.Equal(got, whole) {
		t.Fatalf("the slots that were handed in are %v now", whole)
	}
}

// P18.1: where nobody runs, or who runs has nothing, nothing changes behind now.
func TestNothingChanges(t *testing.T) {
	for _, now := range []int64{0, 1, api.MaxNow - 1} {
		for _, runs := range [][]Run{nil, {{End: 2, Tasks: make([]api.Vector, 1), Nodes: []string{"a"}}}} {
			for _, whole := range [][]place.Slot{nil, {{Node: "a", Free: api.Vector{7}}, {Node: "b"}}} {
				if whole == nil && runs != nil {
					continue
				}
				c := foreseen(now, runs, whole)
				if got := c.ticks(); !slices.Equal(got, []int64{now}) {
					t.Fatalf("the ticks are %d, not %d alone", got, now)
				}
				for _, tick := range []int64{now, now + 1, api.MaxNow} {
					if got := c.at(tick); !slices.Equal(got, whole) {
						t.Fatalf("at %d the slots are %v, not %v", tick, got, whole)
					}
				}
			}
		}
	}
}

// P18.1: of a gang that gives back on one node with MaxTasks tasks, MaxJobs times, all is reckoned with.
func TestMostTakes(t *testing.T) {
	whole := []place.Slot{{Node: "a", Free: api.Vector{api.MaxJobs * api.MaxTasks}}}
	var runs []Run
	for i := range int64(api.MaxJobs) {
		runs = append(runs, Run{End: i + 1, Tasks: slices.Repeat([]api.Vector{{1}}, api.MaxTasks), Nodes: slices.Repeat([]string{"a"}, api.MaxTasks)})
	}
	c := foreseen(0, runs, whole)
	for i := range int64(api.MaxJobs + 1) {
		if got := c.at(i)[0].Free; got != (api.Vector{i * api.MaxTasks}) {
			t.Fatalf("at %d %v is free", i, got)
		}
	}
	if got := c.ticks(); len(got) != api.MaxJobs+1 || !slices.IsSorted(got) {
		t.Fatalf("the ticks are %d", got)
	}
}
