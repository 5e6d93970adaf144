package fill

import (
	"slices"

	"drover/place"
	"drover/profile"
)

// course is what is free of the slots from now on: of each node there is a profile, whose capacity is what is free when all runs have ended, and of which each run takes what it has there till it ends.
type course struct {
	now      int64
	whole    []place.Slot // as they are when all runs have ended
	profiles map[string]*profile.Profile
}

// foreseen answers the course of slots that are whole when all of the runs have given back.
func foreseen(now int64, runs []Run, whole []place.Slot) course {
	c := course{now, whole, make(map[string]*profile.Profile, len(whole))}
	for _, s := range whole {
		// No error can come of it, as all slots are formed.
		c.profiles[s.Node], _ = profile.New(s.Free)
	}
	for _, r := range runs {
		// Who should have ended by now is taken to end at the next tick.
		end := max(r.End, now+1)
		for i, task := range r.Tasks {
			// No error can come of it: all that is taken was given back ahead, and MaxJobs gangs are fewer takes than a profile has.
			c.profiles[r.Nodes[i]].Take(now, end, task)
		}
	}
	return c
}

// ticks answers now and the ticks behind it at which what is free is another than ahead of them, rising.
func (c course) ticks() []int64 {
	ticks := []int64{c.now}
	for _, p := range c.profiles {
		for _, step := range p.Steps() {
			ticks = append(ticks, step.At)
		}
	}
	// Sorted, as a map is gone through in no order; compact, as runs that end at one tick do so on several nodes.
	slices.Sort(ticks)
	return slices.Compact(ticks)
}

// at answers the slots as they are at that tick, which is not ahead of now.
func (c course) at(tick int64) []place.Slot {
	slots := slices.Clone(c.whole)
	for i := range slots {
		slots[i].Free = c.profiles[slots[i].Node].Free(tick)
	}
	return slots
}
