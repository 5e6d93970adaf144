package core

import (
	"slices"
	"strings"

	"drover/api"
	"drover/place"
)

// play makes of the state what a formed record makes of it, if that is possible, and answers what workers are told of it, and whether it was possible. The record is the program's own, and its memory is kept.
func (s *State) play(r api.Record) ([]api.Order, bool) {
	switch x := r.(type) {
	case api.Joined:
		return nil, s.joined(x.Tenant)
	case api.Up:
		return nil, s.registered(x)
	case api.Beat:
		return nil, s.heard(x.Node)
	case api.Down:
		return nil, s.lost(x.Node)
	case api.Submitted:
		return nil, s.submitted(x.Job)
	case api.Released:
		return nil, s.released(x.Job)
	case api.Placed:
		return s.placed(x.Job, x.Nodes)
	case api.Evicted:
		return s.evicted(x.Job)
	case api.Part:
		return nil, s.reported(x.Job, x.Node)
	case api.Ended:
		return s.ended(x.Job, x.State)
	case api.Ticked:
		return nil, s.ticked()
	}
	return nil, false
}

func (s *State) joined(t api.Tenant) bool {
	if s.tenantFault(t.Name) != api.OK {
		return false
	}
	s.Tenants = put(s.Tenants, tenantName, t)
	return true
}

func (s *State) registered(x api.Up) bool {
	if len(s.runningOn(x.Node)) > 0 || s.nodeFault(x.Node, x.Epoch) != api.OK {
		return false
	}
	if s.nodeOf(x.Node) == nil {
		s.Nodes = put(s.Nodes, nodeName, api.Node{Name: x.Node})
	}
	n := s.nodeOf(x.Node)
	n.Epoch, n.Capacity, n.Live, n.Seen = x.Epoch, x.Capacity, true, s.Now
	return true
}

func (s *State) heard(node string) bool {
	n := s.nodeOf(node)
	if n == nil || !n.Live {
		return false
	}
	n.Seen = s.Now
	return true
}

func (s *State) lost(node string) bool {
	n := s.nodeOf(node)
	if n == nil || !n.Live || len(s.runningOn(node)) > 0 {
		return false
	}
	n.Live = false
	return true
}

func (s *State) submitted(j api.Job) bool {
	if s.jobFault(j) != api.OK {
		return false
	}
	j.State = api.Waiting
	s.Jobs = put(s.Jobs, jobID, j)
	return true
}

func (s *State) released(id int64) bool {
	j := s.jobOf(id)
	if j == nil || j.State != api.Waiting {
		return false
	}
	for _, parent := range j.Parents {
		if s.stateOf(parent) != api.Succeeded {
			return false
		}
	}
	j.State = api.Ready
	return true
}

func (s *State) placed(id int64, nodes []string) ([]api.Order, bool) {
	j := s.jobOf(id)
	if j == nil || j.State != api.Ready || !s.affords(j) {
		return nil, false
	}
	// It refuses lists of unlike lengths too.
	if _, err := place.After(j.Tasks, nodes, s.slots()...); err != api.OK {
		return nil, false
	}
	j.State, j.Nodes, j.Start = api.Running, nodes, s.Now
	j.Attempt++
	return s.launches(j), true
}

func (s *State) evicted(id int64) ([]api.Order, bool) {
	j := s.jobOf(id)
	if j == nil || j.State != api.Running {
		return nil, false
	}
	kills := s.kills(j)
	leave(j, api.Ready)
	return kills, true
}

func (s *State) reported(id int64, node string) bool {
	j := s.jobOf(id)
	if j == nil || !owes(j, node) {
		return false
	}
	j.Done = append(j.Done, node)
	slices.Sort(j.Done)
	return true
}

func (s *State) ended(id int64, state int) ([]api.Order, bool) {
	j := s.jobOf(id)
	if j == nil || hasEnded(j) || state == api.Succeeded && !isThrough(j) {
		return nil, false
	}
	// Who succeeds owes no report any more, and so nobody is told.
	kills := s.kills(j)
	leave(j, state)
	return kills, true
}

func (s *State) ticked() bool {
	if s.Now >= api.MaxNow {
		return false
	}
	s.Now++
	return true
}

// leave has a job be in another state, in which it doesn't run.
func leave(j *api.Job, state int) {
	j.State, j.Nodes, j.Done, j.Start = state, nil, nil, 0
}

// owes tells whether a job runs on a node that hasn't reported yet.
func owes(j *api.Job, node string) bool {
	return j.State == api.Running && slices.Contains(j.Nodes, node) && !slices.Contains(j.Done, node)
}

// isThrough tells whether a job runs, and all its nodes have reported.
func isThrough(j *api.Job) bool {
	return j.State == api.Running && !slices.ContainsFunc(j.Nodes, func(node string) bool { return owes(j, node) })
}

// launches answers what workers are told of a job that has just been placed.
func (s *State) launches(j *api.Job) []api.Order {
	var orders []api.Order
	// The nodes rise, and each is there once.
	for _, n := range s.Nodes {
		if tasks := tasksAt(j.Nodes, n.Name); len(tasks) > 0 {
			orders = append(orders, api.Order{Node: strings.Clone(n.Name), Epoch: n.Epoch, Job: j.ID, Attempt: j.Attempt, Launch: true, Tasks: tasks})
		}
	}
	return orders
}

// kills answers what workers are told, if a job is to run no more: nothing, if it doesn't run.
func (s *State) kills(j *api.Job) []api.Order {
	var orders []api.Order
	for _, n := range s.Nodes {
		if owes(j, n.Name) {
			orders = append(orders, api.Order{Node: strings.Clone(n.Name), Epoch: n.Epoch, Job: j.ID, Attempt: j.Attempt})
		}
	}
	return orders
}
