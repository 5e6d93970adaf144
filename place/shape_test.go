package place

import (
	"slices"
	"testing"

	"drover/api"
)

// P16.1: the turns are a permutation of the tasks' numbers: the greatest first, of like tasks the less number.
func TestTurnsOfTasks(t *testing.T) {
	for _, x := range []struct {
		tasks []api.Vector
		want  []int
	}{
		{nil, nil},
		{[]api.Vector{{7}}, []int{0}},
		{[]api.Vector{{1}, {3}, {2}}, []int{1, 2, 0}},
		{[]api.Vector{{1}, {1}, {1}}, []int{0, 1, 2}},
		{[]api.Vector{{1}, {2}, {1}, {2}, {1}, {2}}, []int{1, 3, 5, 0, 2, 4}},
		{[]api.Vector{{0, 0, 0, 1}, {0, 0, 1}, {0, 1}, {1}}, []int{3, 2, 1, 0}},
		{[]api.Vector{{0, 9, 9, 9}, {1}, {0, 9, 9, 10}}, []int{1, 2, 0}},
	} {
		if got := turns(x.tasks); !slices.Equal(got, x.want) {
			t.Errorf("turns of %v are %v, not %v", x.tasks, got, x.want)
		}
	}
}

// P16.1: of the slots that hold a task the first is answered, and it is the one of the list.
func TestHolder(t *testing.T) {
	slots := []Slot{{"a", api.Vector{1}}, {"b", api.Vector{2}}, {"c", api.Vector{1, 1}}, {"d", api.Vector{2}}}
	for task, want := range map[api.Vector]*Slot{{}: &slots[0], {1}: &slots[0], {2}: &slots[1], {0, 1}: &slots[2], {3}: nil, {2, 1}: nil} {
		if got := holder(task, slots); got != want {
			t.Errorf("%v is held by %v, not %v", task, got, want)
		}
	}
	if got := holder(api.Vector{}, nil); got != nil {
		t.Errorf("none holds %v", got)
	}
}
