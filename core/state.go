package core

import (
	"slices"

	"drover/api"
	"drover/place"
	"drover/share"
	"drover/vector"
)

// tenantOf answers nil, if there is no tenant of that name; nodeOf and jobOf likewise.
func (s *State) tenantOf(name string) *api.Tenant {
	return find(s.Tenants, tenantName, name)
}

func (s *State) nodeOf(name string) *api.Node {
	return find(s.Nodes, nodeName, name)
}

func (s *State) jobOf(id int64) *api.Job {
	return find(s.Jobs, jobID, id)
}

// stateOf is a job's state; 0, if it isn't there.
func (s *State) stateOf(id int64) int {
	if j := s.jobOf(id); j != nil {
		return j.State
	}
	return 0
}

func hasEnded(j *api.Job) bool {
	return j.State == api.Succeeded || j.State == api.Failed || j.State == api.Cancelled
}

// heirs answers the jobs that descend from that one, rising.
func (s *State) heirs(id int64) []int64 {
	line := []int64{id}
	for at := 0; at < len(line); at++ {
		for _, j := range s.Jobs {
			// Each once, as one may descend on several ways.
			if slices.Contains(j.Parents, line[at]) && !slices.Contains(line, j.ID) {
				line = append(line, j.ID)
			}
		}
	}
	heirs := line[1:]
	slices.Sort(heirs)
	return heirs
}

// running answers the jobs that run, rising, in the state's own memory.
func (s *State) running() []api.Job {
	var jobs []api.Job
	for _, j := range s.Jobs {
		if j.State == api.Running {
			jobs = append(jobs, j)
		}
	}
	return jobs
}

// runningOn answers the jobs that run on that node, rising.
func (s *State) runningOn(node string) []int64 {
	var jobs []int64
	for _, j := range s.running() {
		if slices.Contains(j.Nodes, node) {
			jobs = append(jobs, j.ID)
		}
	}
	return jobs
}

// tasksAt answers the numbers of the tasks that are on that node.
func tasksAt(nodes []string, node string) []int64 {
	var numbers []int64
	for i, name := range nodes {
		if name == node {
			numbers = append(numbers, int64(i))
		}
	}
	return numbers
}

// usedOf is what is used of a node.
func (s *State) usedOf(node string) api.Vector {
	var tasks []api.Vector
	for _, j := range s.running() {
		for _, i := range tasksAt(j.Nodes, node) {
			tasks = append(tasks, j.Tasks[i])
		}
	}
	// No error can come of it, as it is within the node's capacity.
	sum, _ := vector.Sum(tasks...)
	return sum
}

// usedBy is what a tenant uses.
func (s *State) usedBy(tenant string) api.Vector {
	var tasks []api.Vector
	for _, j := range s.running() {
		if j.Tenant == tenant {
			tasks = append(tasks, j.Tasks...)
		}
	}
	// No error can come of it, as it is within the tenant's quota.
	sum, _ := vector.Sum(tasks...)
	return sum
}

// affords tells whether a job's tasks are within its tenant's quota, with what the tenant uses.
func (s *State) affords(j *api.Job) bool {
	t := s.tenantOf(j.Tenant)
	if t == nil {
		return false
	}
	tasks, err := vector.Sum(j.Tasks...)
	if err != api.OK {
		// A sum that isn't formed is beyond every quota.
		return false
	}
	sum, err := vector.Add(tasks, s.usedBy(j.Tenant))
	return err == api.OK && vector.Fits(sum, t.Quota)
}

// slots answers the live nodes, with what is free of them.
func (s *State) slots() []place.Slot {
	var slots []place.Slot
	for _, n := range s.Nodes {
		if n.Live {
			// No error can come of it, as what is used of a node is within its capacity.
			free, _ := vector.Sub(n.Capacity, s.usedOf(n.Name))
			slots = append(slots, place.Slot{Node: n.Name, Free: free})
		}
	}
	return slots
}

// whole is that of which tenants have their shares.
func (s *State) whole() api.Vector {
	var whole api.Vector
	for _, n := range s.Nodes {
		if !n.Live {
			continue
		}
		for i, amount := range n.Capacity {
			// By itself each resource stays at its most, where vector.Sum would refuse all four.
			whole[i] = min(whole[i]+amount, api.MaxAmount)
		}
	}
	return whole
}

// usages answers what each tenant uses.
func (s *State) usages() []share.Usage {
	var usages []share.Usage
	for _, t := range s.Tenants {
		usages = append(usages, share.Usage{Name: t.Name, Weight: t.Weight, Used: s.usedBy(t.Name)})
	}
	return usages
}
