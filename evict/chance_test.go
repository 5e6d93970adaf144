package evict_test

import (
	"math/rand"
	"slices"
	"strconv"
	"testing"

	"drover/api"
	"drover/evict"
	"drover/place"
)

// sooner tells whether a's turn is ahead of b's.
func sooner(a, b evict.Victim) bool {
	switch {
	case a.Priority != b.Priority:
		return a.Priority < b.Priority
	case a.Start != b.Start:
		return a.Start > b.Start
	}
	return a.Job > b.Job
}

// wantTurns goes through the victims that are left for the one whose turn is next.
func wantTurns(victims []evict.Victim) []int64 {
	var jobs []int64
	for left := slices.Clone(victims); len(left) > 0; {
		next := 0
		for i := range left {
			if sooner(left[i], left[next]) {
				next = i
			}
		}
		jobs = append(jobs, left[next].Job)
		left = slices.Delete(left, next, next+1)
	}
	return jobs
}

// twice tells whether two victims have one job.
func twice(victims []evict.Victim) bool {
	for i, v := range victims {
		if slices.ContainsFunc(victims[:i], func(other evict.Victim) bool { return other.Job == v.Job }) {
			return true
		}
	}
	return false
}

// backOn is what is free of a slot behind all that these give back there.
func backOn(s place.Slot, victims []evict.Victim) api.Vector {
	free := s.Free
	for _, v := range victims {
		for i, task := range v.Tasks {
			if v.Nodes[i] == s.Node {
				for k, n := range task {
					free[k] += n
				}
			}
		}
	}
	return free
}

// wantFault is the first error of the giving back of victims, by sums from the first on at each of them.
func wantFault(victims []evict.Victim, slots []place.Slot) api.Errno {
	for i, v := range victims {
		for _, task := range v.Tasks {
			if slices.Min(task[:]) < 0 || slices.Max(task[:]) > top {
				return api.ErrForm
			}
		}
		if len(v.Tasks) < 1 || len(v.Tasks) > 6 || len(v.Nodes) != len(v.Tasks) {
			return api.ErrRange
		}
		for _, node := range v.Nodes {
			if !slices.ContainsFunc(slots, func(s place.Slot) bool { return s.Node == node }) {
				return api.ErrNone
			}
		}
		for _, s := range slots {
			if free := backOn(s, victims[:i+1]); slices.Max(free[:]) > top {
				return api.ErrOver
			}
		}
	}
	return api.OK
}

// wantChoice tries how many of those below have to go, by sums from the first on for each number.
func wantChoice(c call) ([]int64, []string, api.Errno) {
	if _, e := place.Fit(c.tasks, c.slots...); e != api.OK && e != api.ErrFull {
		return nil, nil, e
	}
	if twice(c.victims) {
		return nil, nil, api.ErrTwice
	}
	if e := wantFault(c.victims, c.slots); e != api.OK {
		return nil, nil, e
	}
	turns := wantTurns(slices.DeleteFunc(slices.Clone(c.victims), func(v evict.Victim) bool { return v.Priority >= c.priority }))
	for n := range len(turns) + 1 {
		var goers []evict.Victim
		for _, job := range turns[:n] {
			goers = append(goers, byJob(c.victims, job))
		}
		slots := slices.Clone(c.slots)
		for i, s := range slots {
			slots[i].Free = backOn(s, goers)
		}
		if nodes, e := place.Fit(c.tasks, slots...); e == api.OK {
			return turns[:n], nodes, api.OK
		}
	}
	return nil, nil, api.ErrFull
}

// held holds both calls against the lists, and answers what Choose's are.
func held(t *testing.T, c call) (int, api.Errno) {
	t.Helper()
	if twice(c.victims) {
		noTurns(t, c.victims...)
	} else {
		inTurns(t, c.victims, wantTurns(c.victims)...)
	}
	gone, nodes, e := wantChoice(c)
	if e != api.OK {
		refuses(t, e, c)
	} else {
		chooses(t, c, gone, nodes...)
	}
	return len(gone), e
}

// small is a vector by chance of numbers that are so.
func small(r *rand.Rand, most int64) api.Vector {
	return vec(r.Int63n(most), r.Int63n(most), r.Int63n(2), r.Int63n(2))
}

// number is one of few, or, now and then, one of the least and the greatest.
func number(r *rand.Rand, most int64) int64 {
	if r.Intn(20) == 0 {
		return ends()[r.Intn(7)]
	}
	return r.Int63n(most)
}

// someVictims are that many by chance, of unlike jobs, on the slots.
func someVictims(r *rand.Rand, n int, slots []place.Slot) []evict.Victim {
	var victims []evict.Victim
	for _, job := range r.Perm(n) {
		v := bare(int64(job), number(r, 4), number(r, 3))
		for range 1 + r.Intn(3) {
			v.Tasks = append(v.Tasks, small(r, 3))
			v.Nodes = append(v.Nodes, slots[r.Intn(len(slots))].Node)
		}
		victims = append(victims, v)
	}
	return victims
}

// someCall is a call by chance; one of so many has a fault.
func someCall(r *rand.Rand, wrong int) call {
	c := call{priority: number(r, 6)}
	for _, i := range r.Perm(1 + r.Intn(4)) {
		c.slots = append(c.slots, place.Slot{Node: "nodes"[:i], Free: small(r, 4)})
	}
	for range 1 + r.Intn(5) {
		c.tasks = append(c.tasks, small(r, 5))
	}
	c.victims = someVictims(r, r.Intn(10), c.slots)
	if r.Intn(wrong) == 0 {
		spoil(r, &c)
	}
	if len(c.victims) > 0 && r.Intn(wrong) == 0 {
		spoilVictim(r, &c.victims[r.Intn(len(c.victims))])
	}
	return c
}

// spoil makes a fault of the tasks, of the slots or of the victims' jobs.
func spoil(r *rand.Rand, c *call) {
	switch r.Intn(5) {
	case 0:
		c.tasks = make([]api.Vector, [...]int{0, 7, 8}[r.Intn(3)])
	case 1:
		c.tasks[r.Intn(len(c.tasks))][r.Intn(4)] = [...]int64{-1, top + 1}[r.Intn(2)]
	case 2:
		c.slots[r.Intn(len(c.slots))].Free[r.Intn(4)] = [...]int64{-1, top + 1, top, top - 1}[r.Intn(4)]
	case 3:
		c.slots[r.Intn(len(c.slots))].Node = c.slots[0].Node
	case 4:
		if len(c.victims) > 0 {
			c.victims[r.Intn(len(c.victims))].Job = c.victims[r.Intn(len(c.victims))].Job
		}
	}
}

// spoilVictim makes a fault of a victim's giving back.
func spoilVictim(r *rand.Rand, v *evict.Victim) {
	switch r.Intn(5) {
	case 0:
		v.Tasks = make([]api.Vector, [...]int{0, 7, 4}[r.Intn(3)])
	case 1:
		v.Tasks[r.Intn(len(v.Tasks))][r.Intn(4)] = [...]int64{-1, top + 1}[r.Intn(2)]
	case 2:
		v.Tasks[r.Intn(len(v.Tasks))][r.Intn(4)] = top - r.Int63n(4)
	case 3:
		v.Nodes[r.Intn(len(v.Nodes))] = "nobody"
	case 4:
		v.Nodes = append(v.Nodes, v.Nodes...)
	}
}

// P17.1, P17.2: calls by chance are held against lists that are gone through; each error is met, and gangs for whom few, many or all have to go.
func TestChance(t *testing.T) {
	errs, goers := map[api.Errno]int{}, map[int]int{}
	for seed := range 60 {
		t.Run(strconv.Itoa(seed), func(t *testing.T) {
			r := rand.New(rand.NewSource(int64(seed)))
			for range 500 {
				gone, e := held(t, someCall(r, [...]int{3, 50}[seed%2]))
				errs[e]++
				if e == api.OK {
					goers[min(gone, 5)]++
				}
			}
		})
	}
	all := []api.Errno{api.OK, api.ErrForm, api.ErrTwice, api.ErrRange, api.ErrNone, api.ErrOver, api.ErrFull}
	for _, e := range all {
		if errs[e] < 300 {
			t.Errorf("only %d calls were answered %d", errs[e], e)
		}
	}
	if len(errs) != len(all) {
		t.Errorf("the errors are %v", errs)
	}
	for n := range 6 {
		if goers[n] < 300 {
			t.Errorf("only for %d gangs %d had to go", goers[n], n)
		}
	}
}

// P17.2: more room is worse by chance too: gangs who find room behind the first so many, and none behind one more.
func TestWorseByChance(t *testing.T) {
	r := rand.New(rand.NewSource(175))
	worse := 0
	for range 60000 {
		c := someCall(r, 1000)
		gone, _, e := c.choose()
		turns := wantTurns(slices.DeleteFunc(slices.Clone(c.victims), func(v evict.Victim) bool { return v.Priority >= c.priority }))
		if e != api.OK || len(gone) == len(turns) {
			continue
		}
		if _, e := place.Fit(c.tasks, behind(t, c, turns[:len(gone)+1])...); e == api.ErrFull {
			held(t, c)
			worse++
		}
	}
	if worse < 20 {
		t.Fatalf("only %d times more room was worse", worse)
	}
}

// P17.1, P17.2: all of three small victims on two slots, for all small gangs of two.
func TestSmall(t *testing.T) {
	nodes := []string{"a", "b"}
	for n := range 1 << 9 {
		var victims []evict.Victim
		for i := range 3 {
			bits := n >> (3 * i)
			victims = append(victims, runs(int64(i), int64(bits&1), int64(bits>>1&1), nodes[bits>>2&1], 1))
		}
		for tasks := range int64(12) {
			for priority := range int64(3) {
				held(t, call{gang(tasks%4, tasks/4), priority, victims, []place.Slot{slot("a"), slot("b", 1)}})
			}
		}
	}
}
