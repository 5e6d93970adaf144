package core

import (
	"drover/api"
	"drover/evict"
	"drover/fill"
	"drover/queue"
	"drover/share"
)

// round is the work of placing who is ready, one turn behind the other.
type round struct {
	*work
	line *queue.Queue // who is ready, and not passed over
	over []int64      // who was passed over for the quota
	head *api.Job     // who waits for room; nil, if nobody does
}

// round has a round. It ends: nobody goes but for one of a greater priority.
func (w *work) round() {
	r := round{work: w, line: queue.New()}
	for _, j := range w.Jobs {
		if j.State == api.Ready {
			r.wait(j.ID)
		}
	}
	for j := r.next(); j != nil; j = r.next() {
		r.turn(j)
	}
}

// wait has a job stand in the line.
func (r *round) wait(id int64) {
	j := r.jobOf(id)
	r.line.Push(queue.Waiter{Job: id, Tenant: j.Tenant, Priority: j.Priority})
}

// next answers the job whose turn it is; nil, if there is none.
func (r *round) next() *api.Job {
	_, tenants := r.line.Top()
	// Of nobody's there is no first one.
	tenant, err := share.First(r.whole(), tenants, r.usages()...)
	if err != api.OK {
		return nil
	}
	first, _ := r.line.Head(tenant)
	return r.jobOf(first.Job)
}

// turn takes a job out of the line: behind its turn it is either placed or passed over.
func (r *round) turn(j *api.Job) {
	r.line.Remove(j.ID)
	switch {
	case !r.affords(j):
		r.over = append(r.over, j.ID)
	case r.head == nil:
		r.drive(j)
	default:
		r.fill(j)
	}
}

// drive places a job, if it finds room where those run who may go for it; else it waits at the head.
func (r *round) drive(j *api.Job) {
	gone, nodes, err := evict.Choose(j.Tasks, j.Priority, r.victims(), r.slots()...)
	if err != api.OK {
		r.head = j
		return
	}
	for _, id := range gone {
		r.do(api.Evicted{Job: id})
		r.wait(id)
	}
	r.do(api.Placed{Job: j.ID, Nodes: nodes})
	if len(gone) > 0 {
		// Those who went have left quota behind.
		for _, id := range r.over {
			r.wait(id)
		}
		r.over = nil
	}
}

// fill places a job, if it may go ahead of the head.
func (r *round) fill(j *api.Job) {
	nodes, ok, _ := fill.Admit(r.Now, r.head.Tasks, j.Tasks, j.Runtime, r.runs(), r.slots()...)
	if ok {
		r.do(api.Placed{Job: j.ID, Nodes: nodes})
	}
}

// victims answers the jobs that run, as evict asks for them.
func (r *round) victims() []evict.Victim {
	var victims []evict.Victim
	for _, j := range r.running() {
		victims = append(victims, evict.Victim{Job: j.ID, Priority: j.Priority, Start: j.Start, Tasks: j.Tasks, Nodes: j.Nodes})
	}
	return victims
}

// runs answers the jobs that run, as fill asks for them.
func (r *round) runs() []fill.Run {
	var runs []fill.Run
	for _, j := range r.running() {
		end := min(j.Start+j.Runtime, api.MaxNow)
		runs = append(runs, fill.Run{Job: j.ID, End: end, Tasks: j.Tasks, Nodes: j.Nodes})
	}
	return runs
}
