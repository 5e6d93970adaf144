package wire

import (
	"math"

	"drover/api"
	"drover/runes"
	"drover/vector"
)

const maxEpoch = math.MaxInt32

// formed tells of a record of the program's own making, or nil, whether it is formed.
func formed(r api.Record) bool {
	switch x := r.(type) {
	case api.Joined:
		return formedTenant(x.Tenant)
	case api.Up:
		return runes.Name(x.Node) && within(x.Epoch, 1, maxEpoch) && vector.Formed(x.Capacity)
	case api.Beat:
		return runes.Name(x.Node)
	case api.Down:
		return runes.Name(x.Node)
	case api.Submitted:
		return formedJob(x.Job)
	case api.Released:
		return jobNumber(x.Job)
	case api.Placed:
		return jobNumber(x.Job) && formedMembers(x.Nodes, runes.Name)
	case api.Evicted:
		return jobNumber(x.Job)
	case api.Part:
		return jobNumber(x.Job) && runes.Name(x.Node)
	case api.Ended:
		return jobNumber(x.Job) && endState(x.State)
	case api.Ticked:
		return true
	}
	return false
}

func formedTenant(t api.Tenant) bool {
	return runes.Name(t.Name) && within(t.Weight, 1, api.MaxWeight) && vector.Formed(t.Quota)
}

func formedJob(job api.Job) bool {
	return jobNumber(job.ID) &&
		runes.Name(job.Tenant) &&
		within(job.Priority, 0, api.MaxPriority) &&
		within(job.Runtime, 1, api.MaxRuntime) &&
		formedParents(job) &&
		formedMembers(job.Tasks, vector.Formed) &&
		untold(job)
}

// untold tells whether the fields that a Submitted has no bytes for are empty.
func untold(job api.Job) bool {
	return job.State == 0 && job.Attempt == 0 && job.Start == 0 && len(job.Nodes) == 0 && len(job.Done) == 0
}

func formedParents(job api.Job) bool {
	if len(job.Parents) > api.MaxParents {
		return false
	}
	last := int64(0) // below every job's number, so that the first parent rises too
	for _, parent := range job.Parents {
		if parent <= last || parent > api.MaxJobs || parent == job.ID {
			return false
		}
		last = parent
	}
	return true
}

// formedMembers tells whether there are 1 to MaxTasks members, all of them good: a job's tasks, or the nodes of each.
func formedMembers[T any](l []T, good func(T) bool) bool {
	if len(l) < 1 || len(l) > api.MaxTasks {
		return false
	}
	for _, x := range l {
		if !good(x) {
			return false
		}
	}
	return true
}

func jobNumber(n int64) bool {
	return within(n, 1, api.MaxJobs)
}

func endState(state int) bool {
	return state == api.Succeeded || state == api.Failed || state == api.Cancelled
}

func within(n, least, most int64) bool {
	return least <= n && n <= most
}
