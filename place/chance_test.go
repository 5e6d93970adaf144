package place_test

import (
	"math/big"
	"math/rand"
	"slices"
	"strconv"
	"testing"

	"drover/api"
	"drover/place"
)

// notFormed tells so without the packages below.
func notFormed(v api.Vector) bool {
	return slices.Min(v[:]) < 0 || slices.Max(v[:]) > top
}

// commonFault is the error that all calls are to answer.
func commonFault(tasks []api.Vector, slots []place.Slot) api.Errno {
	for _, v := range tasks {
		if notFormed(v) {
			return api.ErrForm
		}
	}
	for _, s := range slots {
		if notFormed(s.Free) {
			return api.ErrForm
		}
	}
	for i, s := range slots {
		for _, other := range slots[:i] {
			if other.Node == s.Node {
				return api.ErrTwice
			}
		}
	}
	if len(tasks) < 1 || len(tasks) > 6 {
		return api.ErrRange
	}
	return api.OK
}

// wantFit goes through the tasks that are left for the greatest, and through the slots for the first that holds it with all that is there already.
func wantFit(tasks []api.Vector, slots []place.Slot) ([]string, api.Errno) {
	if e := commonFault(tasks, slots); e != api.OK {
		return nil, e
	}
	at := map[int]int{}
	for range tasks {
		next := -1
		for i := range tasks {
			if _, done := at[i]; !done && (next < 0 || slices.Compare(tasks[i][:], tasks[next][:]) > 0) {
				next = i
			}
		}
		to := slices.IndexFunc(slots, func(s place.Slot) bool {
			sum := tasks[next]
			for i, k := range at {
				if slots[k].Node == s.Node {
					sum = plain(sum, tasks[i], 1)
				}
			}
			return sum[0] <= s.Free[0] && sum[1] <= s.Free[1] && sum[2] <= s.Free[2] && sum[3] <= s.Free[3]
		})
		if to < 0 {
			return nil, api.ErrFull
		}
		at[next] = to
	}
	var nodes []string
	for i := range tasks {
		nodes = append(nodes, slots[at[i]].Node)
	}
	return nodes, api.OK
}

func plain(a, b api.Vector, sign int64) api.Vector {
	return api.Vector{a[0] + sign*b[0], a[1] + sign*b[1], a[2] + sign*b[2], a[3] + sign*b[3]}
}

// wantChange goes through the slots, and reckons each with all tasks that are there, with numbers that have no bound.
func wantChange(sign int64, tasks []api.Vector, nodes []string, slots []place.Slot) ([]place.Slot, api.Errno) {
	if e := commonFault(tasks, slots); e != api.OK {
		return nil, e
	}
	if len(nodes) != len(tasks) {
		return nil, api.ErrRange
	}
	for _, node := range nodes {
		if !slices.ContainsFunc(slots, func(s place.Slot) bool { return s.Node == node }) {
			return nil, api.ErrNone
		}
	}
	var out []place.Slot
	for _, s := range slots {
		for i, n := range s.Free {
			sum := big.NewInt(n)
			for k, v := range tasks {
				if nodes[k] == s.Node {
					sum.Add(sum, big.NewInt(sign*v[i]))
				}
			}
			if sum.Sign() < 0 || sum.Cmp(big.NewInt(top)) > 0 {
				return nil, api.ErrOver
			}
			s.Free[i] = sum.Int64()
		}
		out = append(out, s)
	}
	return out, api.OK
}

// held holds all calls against the lists, and answers their errors.
func held(t *testing.T, tasks []api.Vector, nodes []string, slots []place.Slot) [3]api.Errno {
	t.Helper()
	var errs [3]api.Errno
	var where []string
	if where, errs[0] = wantFit(tasks, slots); errs[0] != api.OK {
		fitsNot(t, errs[0], tasks, slots...)
	} else {
		fits(t, tasks, slots, where...)
	}
	var l []place.Slot
	if l, errs[1] = wantChange(-1, tasks, nodes, slots); errs[1] != api.OK {
		leavesNot(t, errs[1], tasks, nodes, slots...)
	} else {
		leaves(t, tasks, nodes, slots, l...)
	}
	if l, errs[2] = wantChange(1, tasks, nodes, slots); errs[2] != api.OK {
		givesNot(t, errs[2], tasks, nodes, slots...)
	} else {
		gives(t, tasks, nodes, slots, l...)
	}
	return errs
}

// amounts is a vector by chance of numbers below most, or, now and then, near the limit.
func amounts(r *rand.Rand, most int64) api.Vector {
	var v api.Vector
	for i := range v {
		switch r.Intn(12) {
		case 0:
			v[i] = top - r.Int63n(3)
		case 1:
			v[i] = top/2 + r.Int63n(3) - 1
		default:
			v[i] = r.Int63n(most)
		}
	}
	return v
}

// someTasks are that many, some of them alike.
func someTasks(r *rand.Rand, n int) []api.Vector {
	var tasks []api.Vector
	for range n {
		v := vec(r.Int63n(4), r.Int63n(3), r.Int63n(2), r.Int63n(2))
		if r.Intn(30) == 0 {
			v = amounts(r, 3)
		}
		if len(tasks) > 0 && r.Intn(4) == 0 {
			v = tasks[r.Intn(len(tasks))]
		}
		tasks = append(tasks, v)
	}
	return tasks
}

// someSlots are that many, of unlike nodes whose names have no order.
func someSlots(r *rand.Rand, n int) []place.Slot {
	var slots []place.Slot
	for _, i := range r.Perm(n) {
		slots = append(slots, place.Slot{Node: "nodes"[:i%6] + strconv.Itoa(i/6), Free: amounts(r, 7)})
	}
	return slots
}

// someCall is a call by chance; one of so many has a fault.
func someCall(r *rand.Rand, wrong int) ([]api.Vector, []string, []place.Slot) {
	tasks, slots := someTasks(r, 1+r.Intn(6)), someSlots(r, r.Intn(9))
	if r.Intn(wrong) == 0 {
		tasks = someTasks(r, [...]int{0, 7, 8}[r.Intn(3)])
	}
	if len(tasks) > 0 && r.Intn(2*wrong) == 0 {
		tasks[r.Intn(len(tasks))][r.Intn(4)] = [...]int64{-1, top + 1}[r.Intn(2)]
	}
	if len(slots) > 0 && r.Intn(2*wrong) == 0 {
		slots[r.Intn(len(slots))].Free[r.Intn(4)] = [...]int64{-1, top + 1}[r.Intn(2)]
	}
	if len(slots) > 1 && r.Intn(wrong) == 0 {
		slots[r.Intn(len(slots))].Node = slots[r.Intn(len(slots))].Node
	}
	var nodes []string
	for range tasks {
		nodes = append(nodes, append(slots, slot("a"))[r.Intn(max(1, len(slots)))].Node)
	}
	if len(nodes) > 0 && r.Intn(wrong) == 0 {
		nodes[r.Intn(len(nodes))] = "nobody"
	}
	if r.Intn(wrong) == 0 {
		nodes = append(nodes, "a")[r.Intn(2)*2*len(nodes)/(len(nodes)+1):]
	}
	return tasks, nodes, slots
}

// P16.1, P16.2: calls by chance are held against lists that are gone through; each error is met, of each call.
func TestChance(t *testing.T) {
	var met [3]map[api.Errno]int
	for i := range met {
		met[i] = map[api.Errno]int{}
	}
	for seed := range 60 {
		t.Run(strconv.Itoa(seed), func(t *testing.T) {
			r := rand.New(rand.NewSource(int64(seed)))
			for range 500 {
				tasks, nodes, slots := someCall(r, [...]int{5, 50}[seed%2])
				for i, e := range held(t, tasks, nodes, slots) {
					met[i][e]++
				}
			}
		})
	}
	for i, want := range [][]api.Errno{
		{api.OK, api.ErrForm, api.ErrTwice, api.ErrRange, api.ErrFull},
		{api.OK, api.ErrForm, api.ErrTwice, api.ErrRange, api.ErrNone, api.ErrOver},
		{api.OK, api.ErrForm, api.ErrTwice, api.ErrRange, api.ErrNone, api.ErrOver},
	} {
		for _, e := range want {
			if met[i][e] < 500 {
				t.Errorf("only %d calls of the %d. were answered %d", met[i][e], i, e)
			}
		}
		if len(met[i]) != len(want) {
			t.Errorf("the errors of the %d. are %v", i, met[i])
		}
	}
}

// P16.1, P16.2: all gangs of up to three small tasks on two small slots.
func TestSmall(t *testing.T) {
	var small []api.Vector
	for n := range int64(9) {
		small = append(small, vec(n%3, n/3))
	}
	for _, a := range small {
		for _, b := range small {
			slots := []place.Slot{{Node: "a", Free: a}, {Node: "b", Free: b}}
			for _, x := range small {
				held(t, []api.Vector{x}, []string{"b"}, slots)
				for _, y := range small {
					held(t, []api.Vector{x, y}, []string{"b", "b"}, slots)
					for _, z := range small {
						held(t, []api.Vector{x, y, z}, []string{"b", "a", "b"}, slots)
					}
				}
			}
		}
	}
}
