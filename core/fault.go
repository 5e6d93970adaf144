package core

import (
	"slices"

	"drover/api"
	"drover/order"
)

// tenantFault answers why no tenant of that name can join.
func (s *State) tenantFault(name string) api.Errno {
	if s.tenantOf(name) != nil {
		return api.ErrTwice
	}
	if len(s.Tenants) >= api.MaxTenants {
		return api.ErrFull
	}
	return api.OK
}

// nodeFault answers why a node of that name can't register by that epoch.
func (s *State) nodeFault(name string, epoch int64) api.Errno {
	n := s.nodeOf(name)
	if n != nil && epoch <= n.Epoch {
		return api.ErrStale
	}
	if n == nil && len(s.Nodes) >= api.MaxNodes {
		return api.ErrFull
	}
	return api.OK
}

// jobFault answers why a formed job can't be there, whatever its tasks take.
func (s *State) jobFault(j api.Job) api.Errno {
	if s.jobOf(j.ID) != nil {
		return api.ErrTwice
	}
	if s.tenantOf(j.Tenant) == nil {
		return api.ErrNone
	}
	heirs := s.heirs(j.ID)
	if slices.ContainsFunc(j.Parents, func(parent int64) bool { return slices.Contains(heirs, parent) }) {
		return api.ErrCycle
	}
	if slices.ContainsFunc(j.Parents, s.isBroken) {
		return api.ErrState
	}
	return api.OK
}

// isBroken tells whether a job will never succeed.
func (s *State) isBroken(id int64) bool {
	state := s.stateOf(id)
	return state == api.Failed || state == api.Cancelled
}

// reportFault answers why a worker's report of a job isn't taken.
func (s *State) reportFault(x order.Command) api.Errno {
	n, j := s.nodeOf(x.Node), s.jobOf(x.Number)
	if n == nil || j == nil {
		return api.ErrNone
	}
	if !n.Live || n.Epoch != x.Epoch || j.Attempt != x.Attempt || !owes(j, n.Name) {
		return api.ErrStale
	}
	return api.OK
}
