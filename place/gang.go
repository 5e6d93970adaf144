package place

import (
	"slices"
	"strings"

	"drover/api"
	"drover/vector"
)

// check answers the errors that all calls have, and, if there is none, the place of each node's slot.
func check(tasks []api.Vector, slots []Slot) (map[string]int, api.Errno) {
	if !formed(tasks, slots) {
		return nil, api.ErrForm
	}
	places := make(map[string]int, len(slots))
	for i, s := range slots {
		places[s.Node] = i
	}
	// Two of one node stand in one place of the map.
	if len(places) < len(slots) {
		return nil, api.ErrTwice
	}
	if len(tasks) == 0 || len(tasks) > api.MaxTasks {
		return nil, api.ErrRange
	}
	return places, api.OK
}

// formed tells whether all of the tasks are, and what is free of each slot.
func formed(tasks []api.Vector, slots []Slot) bool {
	for _, task := range tasks {
		if !vector.Formed(task) {
			return false
		}
	}
	for _, s := range slots {
		if !vector.Formed(s.Free) {
			return false
		}
	}
	return true
}

// turns answers the tasks' numbers in the order in which the tasks are placed.
func turns(tasks []api.Vector) []int {
	numbers := make([]int, len(tasks))
	for i := range numbers {
		numbers[i] = i
	}
	// Stable, since of like tasks the one with the less number comes first.
	slices.SortStableFunc(numbers, func(a, b int) int { return vector.Cmp(tasks[b], tasks[a]) })
	return numbers
}

// holder answers the first slot within which the task is; nil, if there is none.
func holder(task api.Vector, slots []Slot) *Slot {
	for i := range slots {
		if vector.Fits(task, slots[i].Free) {
			return &slots[i]
		}
	}
	return nil
}

// reckoned answers the slots, each with what reckon makes of its free and the tasks on its node, one behind the other.
func reckoned(reckon func(a, b api.Vector) (api.Vector, api.Errno), tasks []api.Vector, nodes []string, slots []Slot) ([]Slot, api.Errno) {
	places, err := check(tasks, slots)
	if err != api.OK {
		return nil, err
	}
	if len(nodes) != len(tasks) {
		return nil, api.ErrRange
	}
	if !known(nodes, places) {
		return nil, api.ErrNone
	}
	out := slices.Clone(slots)
	for i, task := range tasks {
		slot := &out[places[nodes[i]]]
		// Numbers only fall, or only rise: one that is beyond its bounds at some step is so in the end.
		if slot.Free, err = reckon(slot.Free, task); err != api.OK {
			return nil, api.ErrOver
		}
	}
	for i := range out {
		out[i].Node = strings.Clone(out[i].Node)
	}
	return out, api.OK
}

// known tells whether each of the nodes has a place. It is asked ahead of all reckoning, as a node that isn't there comes ahead of a number beyond its bounds.
func known(nodes []string, places map[string]int) bool {
	for _, node := range nodes {
		if _, ok := places[node]; !ok {
			return false
		}
	}
	return true
}
