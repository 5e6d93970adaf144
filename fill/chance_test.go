package fill_test

import (
	"math/rand"
	"slices"
	"strconv"
	"testing"

	"drover/api"
	"drover/fill"
	"drover/place"
)

// backOn is what is free of a slot behind all that these give back there.
func backOn(s place.Slot, runs []fill.Run) api.Vector {
	free := s.Free
	for _, r := range runs {
		for i, task := range r.Tasks {
			if r.Nodes[i] == s.Node {
				for k, n := range task {
					free[k] += n
				}
			}
		}
	}
	return free
}

// slotsAt are the slots at that tick, by sums from the first run on.
func slotsAt(tick int64, c call) []place.Slot {
	ended := slices.DeleteFunc(slices.Clone(c.runs), func(r fill.Run) bool { return tick == c.now || r.End > tick })
	slots := slices.Clone(c.slots)
	for i, s := range slots {
		slots[i].Free = backOn(s, ended)
	}
	return slots
}

// wantFault is the first error of the giving back of runs, by sums from the first on at each of them.
func wantFault(runs []fill.Run, slots []place.Slot) api.Errno {
	for i, r := range runs {
		for _, task := range r.Tasks {
			if slices.Min(task[:]) < 0 || slices.Max(task[:]) > top {
				return api.ErrForm
			}
		}
		if len(r.Tasks) < 1 || len(r.Tasks) > 6 || len(r.Nodes) != len(r.Tasks) {
			return api.ErrRange
		}
		for _, node := range r.Nodes {
			if !slices.ContainsFunc(slots, func(s place.Slot) bool { return s.Node == node }) {
				return api.ErrNone
			}
		}
		for _, s := range slots {
			if free := backOn(s, runs[:i+1]); slices.Max(free[:]) > top {
				return api.ErrOver
			}
		}
	}
	return api.OK
}

// wantStart tries one tick behind the other till all runs have ended.
func wantStart(c call) (int64, []string, api.Errno) {
	if c.now < 0 || c.now > last || len(c.runs) > 100 {
		return 0, nil, api.ErrRange
	}
	latest := c.now + 1
	for _, r := range c.runs {
		if r.End < 0 || r.End > last+1 {
			return 0, nil, api.ErrRange
		}
		latest = max(latest, r.End)
	}
	if _, e := place.Fit(c.head, c.slots...); e != api.OK && e != api.ErrFull {
		return 0, nil, e
	}
	if e := wantFault(c.runs, c.slots); e != api.OK {
		return 0, nil, e
	}
	for tick := c.now; tick <= latest; tick++ {
		if nodes, e := place.Fit(c.head, slotsAt(tick, c)...); e == api.OK {
			return tick, nodes, api.OK
		}
	}
	return 0, nil, api.ErrFull
}

// wantAdmit tries the head's start with later and without.
func wantAdmit(c call) ([]string, bool, api.Errno) {
	start, _, none := wantStart(c)
	if none == api.ErrRange || c.runtime < 1 || c.runtime > 1000 || c.now+c.runtime > last+1 {
		return nil, false, api.ErrRange
	}
	if none != api.OK && none != api.ErrFull {
		return nil, false, none
	}
	nodes, e := place.Fit(c.later, c.slots...)
	if e != api.OK && e != api.ErrFull {
		return nil, false, e
	}
	if e == api.ErrFull {
		return nil, false, api.OK
	}
	ahead := fill.Run{End: c.now + c.runtime, Tasks: c.later, Nodes: nodes}
	c.slots = slices.Clone(c.slots)
	for i, s := range c.slots {
		for k, n := range backOn(place.Slot{Node: s.Node}, []fill.Run{ahead}) {
			c.slots[i].Free[k] -= n
		}
	}
	c.runs = append(slices.Clone(c.runs), ahead)
	if none == api.OK {
		if tick, _, e := wantStart(c); e != api.OK || tick != start {
			return nil, false, api.OK
		}
	}
	return nodes, true, api.OK
}

// answer is what is told of a call: the errors of both, how long the head waits, and whether later is admitted.
type answer struct {
	start, admit api.Errno
	wait         int64
	ok           bool
}

// held holds both calls against the lists, and answers what they are.
func held(t *testing.T, c call) answer {
	t.Helper()
	var a answer
	var nodes []string
	var tick int64
	if tick, nodes, a.start = wantStart(c); a.start != api.OK {
		startsNot(t, a.start, c)
	} else {
		starts(t, c, tick, nodes...)
		a.wait = tick - c.now
	}
	switch nodes, a.ok, a.admit = wantAdmit(c); {
	case a.admit != api.OK:
		admitsNot(t, a.admit, c)
	case a.ok:
		admits(t, c, nodes...)
	default:
		waits(t, c)
	}
	return a
}

// small is a vector by chance of numbers that are so.
func small(r *rand.Rand, most int64) api.Vector {
	return vec(r.Int63n(most), r.Int63n(most), r.Int63n(2), r.Int63n(2))
}

// someGang is tasks by chance.
func someGang(r *rand.Rand, most int64) []api.Vector {
	var tasks []api.Vector
	for range 1 + r.Intn(4) {
		tasks = append(tasks, small(r, most))
	}
	return tasks
}

// someRuns are that many by chance, on the slots, which end some ticks ahead of now or behind.
func someRuns(r *rand.Rand, n int, now int64, slots []place.Slot) []fill.Run {
	var runs []fill.Run
	for range n {
		x := fill.Run{Job: r.Int63n(9), End: min(max(now+r.Int63n(24)-4, 0), api.MaxNow)}
		for range 1 + r.Intn(3) {
			x.Tasks = append(x.Tasks, small(r, 3))
			x.Nodes = append(x.Nodes, slots[r.Intn(len(slots))].Node)
		}
		runs = append(runs, x)
	}
	return runs
}

// someCall is a call by chance; one of so many has a fault.
func someCall(r *rand.Rand, wrong int) call {
	c := call{now: [...]int64{0, r.Int63n(30), last - r.Int63n(30)}[r.Intn(3)], runtime: 1 + r.Int63n(25)}
	if c.now > last-25 && r.Intn(4) > 0 {
		c.runtime = 1 + r.Int63n(api.MaxNow-c.now)
	}
	for _, i := range r.Perm(1 + r.Intn(4)) {
		c.slots = append(c.slots, place.Slot{Node: "nodes"[:i], Free: small(r, 4)})
	}
	c.head, c.later = someGang(r, 6), someGang(r, 2+r.Int63n(2))
	c.runs = someRuns(r, [...]int{r.Intn(10), r.Intn(3)}[r.Intn(2)], c.now, c.slots)
	if r.Intn(400) == 0 {
		c.runs = someRuns(r, 98+r.Intn(4), c.now, c.slots)
	}
	if r.Intn(wrong) == 0 {
		spoil(r, &c)
	}
	if len(c.runs) > 0 && r.Intn(wrong) == 0 {
		spoilRun(r, &c.runs[r.Intn(len(c.runs))])
	}
	return c
}

// spoil makes a fault of now, the runtime, a gang or the slots.
func spoil(r *rand.Rand, c *call) {
	tasks := [...]*[]api.Vector{&c.head, &c.later}[r.Intn(2)]
	switch r.Intn(6) {
	case 0:
		*tasks = make([]api.Vector, [...]int{0, 7, 8}[r.Intn(3)])
	case 1:
		(*tasks)[r.Intn(len(*tasks))][r.Intn(4)] = [...]int64{-1, top + 1}[r.Intn(2)]
	case 2:
		c.slots[r.Intn(len(c.slots))].Free[r.Intn(4)] = [...]int64{-1, top + 1, top, top - 1}[r.Intn(4)]
	case 3:
		c.slots[r.Intn(len(c.slots))].Node = c.slots[0].Node
	case 4:
		c.now = [...]int64{-1, last + 1, last + 2}[r.Intn(3)]
	case 5:
		c.runtime = [...]int64{-1, 0, 1000, 1001}[r.Intn(4)]
	}
}

// spoilRun makes a fault of a run.
func spoilRun(r *rand.Rand, x *fill.Run) {
	switch r.Intn(6) {
	case 0:
		x.Tasks = make([]api.Vector, [...]int{0, 7, 4}[r.Intn(3)])
	case 1:
		x.Tasks[r.Intn(len(x.Tasks))][r.Intn(4)] = [...]int64{-1, top + 1}[r.Intn(2)]
	case 2:
		x.Tasks[r.Intn(len(x.Tasks))][r.Intn(4)] = top - r.Int63n(4)
	case 3:
		x.Nodes[r.Intn(len(x.Nodes))] = "nobody"
	case 4:
		x.Nodes = append(x.Nodes, x.Nodes...)
	case 5:
		x.End = [...]int64{-1, api.MaxNow + 1}[r.Intn(2)]
	}
}

// P18.1, P18.2: calls by chance are held against a list that is gone through tick by tick; each error is met, heads who wait and don't, and later ones who are admitted and aren't.
func TestChance(t *testing.T) {
	starts, admits := map[api.Errno]int{}, map[api.Errno]int{}
	waits, oks := map[bool]int{}, map[[2]bool]int{}
	for seed := range 60 {
		t.Run(strconv.Itoa(seed), func(t *testing.T) {
			r := rand.New(rand.NewSource(int64(seed)))
			for range 500 {
				a := held(t, someCall(r, [...]int{3, 50}[seed%2]))
				starts[a.start]++
				admits[a.admit]++
				if a.start == api.OK {
					waits[a.wait > 0]++
				}
				if a.admit == api.OK {
					oks[[2]bool{a.start == api.OK, a.ok}]++
				}
			}
		})
	}
	all := []api.Errno{api.OK, api.ErrForm, api.ErrTwice, api.ErrRange, api.ErrNone, api.ErrOver}
	for _, e := range append(all, api.ErrFull) {
		if starts[e] < 300 || admits[e] < 300 && e != api.ErrFull {
			t.Errorf("only %d and %d calls were answered %d", starts[e], admits[e], e)
		}
	}
	if len(starts) != len(all)+1 || len(admits) != len(all) {
		t.Errorf("the errors are %v and %v", starts, admits)
	}
	for _, yes := range []bool{false, true} {
		if waits[yes] < 1000 || oks[[2]bool{yes, false}] < 300 || oks[[2]bool{yes, true}] < 300 {
			t.Errorf("the heads who wait are %v, of those who start or not later was admitted or not: %v", waits, oks)
		}
	}
}

// P18.1, P18.2: more room is worse by chance too: heads who find room at a tick, and none at a later one.
func TestWorseByChance(t *testing.T) {
	r := rand.New(rand.NewSource(185))
	worse := 0
	for range 60000 {
		c := someCall(r, 1000)
		tick, _, e := c.start()
		if e != api.OK {
			continue
		}
		for later := tick + 1; later <= tick+20; later++ {
			if _, e := place.Fit(c.head, slotsAt(later, c)...); e == api.ErrFull {
				held(t, c)
				worse++
				break
			}
		}
	}
	if worse < 20 {
		t.Fatalf("only %d times more room was worse", worse)
	}
}

// P18.1, P18.2: each tick at which a later one may end, with all runs of two on two slots, for small heads of two.
func TestSmall(t *testing.T) {
	nodes := []string{"a", "b"}
	for n := range 1 << 6 {
		var runs []fill.Run
		for i := range 2 {
			bits := n >> (3 * i)
			runs = append(runs, run(int64(i), int64(bits&3)+1, nodes[bits>>2&1], 1))
		}
		for tasks := range int64(16) {
			for runtime := range int64(6) {
				for later := range int64(3) {
					held(t, call{2, gang(tasks%4, tasks/4), gang(later), runtime, runs, []place.Slot{slot("a", 1), slot("b", 2)}})
				}
			}
		}
	}
}
