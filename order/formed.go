package order

import (
	"math"

	"drover/api"
	"drover/runes"
	"drover/vector"
	"drover/wire"
)

const (
	maxEpoch   = math.MaxInt32
	maxAttempt = math.MaxInt32
)

// formedNamed tells whether there is such a kind, and what its line names is formed.
func formedNamed(c Command) bool {
	switch c.Kind {
	case tenant:
		return wire.Formed(api.Joined{Tenant: c.Tenant})
	case submit:
		return wire.Formed(api.Submitted{Job: c.Job})
	case cancel, query:
		return jobNumber(c.Number)
	case up:
		return formedWorker(c) && vector.Formed(c.Vector)
	case beat:
		return formedWorker(c)
	case done, fail:
		return formedWorker(c) && jobNumber(c.Number) && within(c.Attempt, 1, maxAttempt)
	case tick, nodes:
		return true
	}
	return false
}

// formedWorker tells whether the node and the epoch are, by which a worker says who it is.
func formedWorker(c Command) bool {
	return runes.Name(c.Node) && within(c.Epoch, 1, maxEpoch)
}

func jobNumber(n int64) bool {
	return within(n, 1, api.MaxJobs)
}

func within(n, least, most int64) bool {
	return least <= n && n <= most
}

// unnamed is c without what its line names.
func unnamed(c Command) Command {
	switch c.Kind {
	case tenant:
		c.Tenant = api.Tenant{}
	case submit:
		c.Job = api.Job{}
	case cancel, query:
		c.Number = 0
	case up:
		c.Node, c.Epoch, c.Vector = "", 0, api.Vector{}
	case beat:
		c.Node, c.Epoch = "", 0
	case done, fail:
		c.Node, c.Epoch, c.Number, c.Attempt = "", 0, 0, 0
	}
	return c
}

// empty tells whether all fields are zero but the Kind.
func empty(c Command) bool {
	return c.Tenant == api.Tenant{} && emptyJob(c.Job) &&
		c.Node == "" && c.Epoch == 0 && c.Vector == api.Vector{} && c.Number == 0 && c.Attempt == 0
}

// emptyJob asks the lists for their lengths, as one that isn't nil may be of no elements too.
func emptyJob(j api.Job) bool {
	return j.ID == 0 && j.Tenant == "" && j.Priority == 0 && j.Runtime == 0 &&
		len(j.Parents) == 0 && len(j.Tasks) == 0 &&
		j.State == 0 && j.Attempt == 0 && len(j.Nodes) == 0 && j.Start == 0 && len(j.Done) == 0
}
