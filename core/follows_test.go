package core_test

import (
	"slices"
	"strings"
	"testing"

	"drover/api"
	"drover/core"
)

// usedBy is what all tasks of running jobs take of which that is said.
func usedBy(s core.State, counts func(j api.Job, task int) bool) api.Vector {
	var sum api.Vector
	for _, j := range s.Jobs {
		for i, v := range j.Tasks {
			if j.State == api.Running && counts(j, i) {
				sum = plus(sum, v)
			}
		}
	}
	return sum
}

// live are the live nodes' names, with what is used of each.
func live(s core.State) map[string]api.Vector {
	l := map[string]api.Vector{}
	for _, n := range s.Nodes {
		if n.Live {
			l[n.Name] = usedBy(s, func(j api.Job, i int) bool { return j.Nodes[i] == n.Name })
		}
	}
	return l
}

// sound asks for what P21.3 says of a state.
func sound(t *testing.T, s core.State) {
	t.Helper()
	alive := live(s)
	for _, n := range s.Nodes {
		if !within(alive[n.Name], n.Capacity) {
			t.Fatalf("of %+v %v is used", n, alive[n.Name])
		}
	}
	for _, tenant := range s.Tenants {
		if used := usedBy(s, func(j api.Job, _ int) bool { return j.Tenant == tenant.Name }); !within(used, tenant.Quota) {
			t.Fatalf("%+v uses %v", tenant, used)
		}
	}
	states := map[int64]int{}
	for _, j := range s.Jobs {
		states[j.ID] = j.State
	}
	for _, j := range s.Jobs {
		if j.State != api.Running && len(j.Nodes)+len(j.Done)+int(j.Start) > 0 || j.State == api.Running && len(j.Nodes) != len(j.Tasks) {
			t.Fatalf("there is the job %+v", j)
		}
		for _, node := range j.Nodes {
			if _, ok := alive[node]; !ok {
				t.Fatalf("%+v has a task on a node that isn't live", j)
			}
		}
		for _, p := range j.Parents {
			if states[p] != api.Succeeded && (j.State == api.Ready || j.State == api.Running || j.State == api.Succeeded) {
				t.Fatalf("of %+v the parent %d is %d", j, p, states[p])
			}
		}
	}
}

// goesOn asks for what P21.3 says of a state and one behind it.
func goesOn(t *testing.T, before, after core.State) {
	t.Helper()
	jobs := map[int64]api.Job{}
	for _, j := range after.Jobs {
		jobs[j.ID] = j
	}
	for _, was := range before.Jobs {
		is := jobs[was.ID]
		if was.State >= api.Succeeded && whole(is) != whole(was) {
			t.Fatalf("%+v had ended, and is %+v now", was, is)
		}
		if is.Attempt < was.Attempt || is.State == api.Running && was.State != api.Running && is.Attempt == was.Attempt {
			t.Fatalf("%+v is %+v now", was, is)
		}
	}
}

// noneForgotten asks for what P21.4 says of a state behind a round.
func noneForgotten(t *testing.T, s core.State) {
	t.Helper()
	var ready []api.Job
	for _, j := range s.Jobs {
		if j.State == api.Ready {
			ready = append(ready, j)
		}
	}
	for _, j := range ready {
		first := !slices.ContainsFunc(ready, func(other api.Job) bool { return other.ID != j.ID && other.Priority >= j.Priority })
		if !first || len(j.Tasks) != 1 {
			continue
		}
		used := usedBy(s, func(other api.Job, _ int) bool { return other.Tenant == j.Tenant })
		fits := false
		for _, n := range s.Nodes {
			fits = fits || n.Live && within(plus(live(s)[n.Name], j.Tasks[0]), n.Capacity)
		}
		affords := slices.ContainsFunc(s.Tenants, func(t api.Tenant) bool {
			return t.Name == j.Tenant && within(plus(used, j.Tasks[0]), t.Quota)
		})
		if fits && affords {
			t.Fatalf("%+v is ready, and fits, in %+v", j, s)
		}
	}
}

// P21.3: each time that a job is placed its attempt rises, and it never falls.
func TestAttemptsRise(t *testing.T) {
	c := doing(t, "tenant a 1 9:0:0:0", "up n 1 1:0:0:0", "submit 1 a 1 10 - 1:0:0:0")
	for i := range int64(50) {
		if j := c.State().Jobs[0]; j.Attempt != i+1 || j.State != api.Running {
			t.Fatalf("behind %d evictions the job is %+v", i, j)
		}
		x := parsed(t, "up n 1 1:0:0:0")
		x.Epoch = i + 2
		if reply, _, _ := c.Step(x); reply[0] != "ok" {
			t.Fatal(reply)
		}
	}
}

// P21.4: the job of the greatest priority that fits drives out whom it needs, however full it is.
func TestGreatestRuns(t *testing.T) {
	c := doing(t, "tenant a 1 9:9:9:9", "tenant b 1 100:0:0:0", "up n 1 4:0:0:0", "up m 1 6:0:0:0",
		"submit 1 b 5 10 - 3:0:0:0 3:0:0:0 3:0:0:0", "submit 2 b 5 10 - 1:0:0:0", "submit 3 b 5 10 - 10:0:0:0", "submit 4 b 5 10 - 1:0:0:0")
	steps(t, c, step{"submit 5 a 6 1 - 6:0:0:0", "ok", "submitted 5; released 5; evicted 2; evicted 1; placed 5 m; placed 2 n", "kill n 1 2 1; kill m 1 1 1; kill n 1 1 1; launch m 1 5 1 0; launch n 1 2 2 0"})
}

// P21.5: a nil core has the empty state, and takes nothing.
func TestNil(t *testing.T) {
	var c *core.Core
	is(t, c, core.State{})
	playsNot(t, c, api.ErrState, api.Ticked{}, joined("a", 1), up("n", 1, 1), nil, api.Beat{}, odd{3}, released(0), evicted(1))
	for _, line := range []string{"tenant a 1 1:1:1:1", "submit 1 a 1 1 - 1:1:1:1", "cancel 1", "query 1", "up n 1 1:1:1:1", "beat n 1", "done n 1 1 1", "fail n 1 1 1", "tick", "nodes"} {
		refuses(t, c, api.ErrState, line)
	}
	x := parsed(t, "tick")
	for _, x.Kind = range []int{0, 11, -1, 3} {
		reply, records, told := c.Step(x)
		foretold, foreseen := c.Ask(x)
		if whole(reply) != "[error 10]" || len(records)+len(told)+len(foreseen) > 0 || whole(foretold) != "[error 10]" {
			t.Fatalf("%+v: %q, %v, %v; Ask: %q, %v", x, reply, records, told, foretold, foreseen)
		}
	}
	is(t, c, core.State{})
}

// P21.5: the zero core is as New's, and as one in the empty state.
func TestZero(t *testing.T) {
	for _, c := range []*core.Core{{}, new(core.Core), core.New(), core.Of(core.State{}), core.Of((*core.Core)(nil).State())} {
		is(t, c, core.State{})
		playsNot(t, c, api.ErrState, released(1), placed(1, "n"), evicted(1), part(1, "n"), ended(1, api.Failed), beat("n"), down("n"), submitted(job(1, 1)))
		steps(t, c, exampleSteps()...)
		is(t, c, exampleState())
	}
}

// R7: two cores have nothing of one another.
func TestTwoCores(t *testing.T) {
	a := core.Of(exampleState())
	b := core.Of(a.State())
	does(t, a, "done n 1 4 1", "up n 2 1:0:0:0", "tenant b 1 1:1:1:1", "submit 9 b 1 1 - 1:0:0:0", "cancel 1", "tick")
	is(t, b, exampleState())
	was := whole(a.State())
	does(t, b, "cancel 2", "up m 1 9:0:0:0", "tick")
	if now := whole(a.State()); now != was {
		t.Fatalf("the other core is %s, and was %s", now, was)
	}
}

// P21.1: of a state that no core was in every call ends, and none panics.
func TestOfAnything(t *testing.T) {
	big := []api.Vector{{1 << 62, -1, 5}, {-1 << 63, 1<<63 - 1}}
	for _, s := range wildStates(big) {
		c := core.Of(s)
		for range 2 {
			for _, line := range []string{"tick", "tenant b 1 9:9:9:9", "submit 99 a 5 3 1,2 1:0:0:0", "submit 98 a 100 3 - 1:0:0:0", "cancel 1", "query 2", "up n 9 5:5:5:5", "beat n 9", "done n 1 1 1", "fail n 1 2 1", "nodes", "tick"} {
				c.Ask(parsed(t, line))
				c.Step(parsed(t, line))
				c.State()
			}
			for id := range int64(4) {
				for _, r := range []api.Record{released(id), placed(id, "n"), placed(id, "n", "m"), part(id, "n"), part(id, "m"), evicted(id), ended(id, api.Succeeded), placed(id, "m"), ended(id, api.Failed), down("n"), beat("m"), up("m", 5, 5), submitted(child(97, 1, 2, 3))} {
					c.Play(r)
				}
			}
			c.State()
		}
	}
}

// wildStates are states that no core was in.
func wildStates(big []api.Vector) []core.State {
	a := api.Tenant{Name: "a", Weight: 1, Quota: vec(9, 9, 9, 9)}
	n := api.Node{Name: "n", Epoch: 1, Capacity: vec(9, 9, 9, 9), Live: true}
	m := api.Node{Name: "m", Epoch: 1, Capacity: vec(2, 2, 2, 2), Live: true}
	in := func(j api.Job, state int, nodes ...string) api.Job {
		j.State, j.Nodes = state, nodes
		return j
	}
	circle := []api.Job{in(child(1, 3), api.Waiting), in(child(2, 1, 2), api.Waiting), in(child(3, 2), api.Ready)}
	wild := api.Job{ID: -5, Tenant: "x", Priority: -1 << 63, Runtime: -1 << 63, Parents: []int64{-5, 0}, Tasks: big, State: 99, Attempt: -7, Nodes: []string{"", "n", "q"}, Start: 1<<63 - 1, Done: []string{"z", "z", "a"}}
	long := in(job(1, 1), api.Running, "n")
	long.Start, long.Runtime = 1<<63-1, 1<<63-1
	return []core.State{
		{Now: -1}, {Now: 1<<63 - 1}, {Now: -1 << 63},
		{Tenants: []api.Tenant{a, a, {}}, Nodes: []api.Node{n, m, n, {}}, Jobs: circle},
		{Tenants: []api.Tenant{a}, Nodes: []api.Node{n, m}, Jobs: []api.Job{in(job(2, 1), api.Running, "n"), in(job(1, 1), api.Running, "n", "m", "m"), in(job(3, 1, 1), api.Running, "n"), in(job(4, 1), api.Running)}},
		{Tenants: []api.Tenant{a}, Nodes: []api.Node{n}, Jobs: []api.Job{in(of("a", 0, 1, 5), api.Running, "n"), in(of("a", 5, 1, 5), api.Ready), in(of("a", 0, 1, 5), api.Running, "n"), in(of("a", 7, 2, 9), api.Ready)}},
		{Tenants: []api.Tenant{a}, Nodes: []api.Node{m, n}, Jobs: []api.Job{in(job(1, 99), api.Running, "n"), in(job(2, 3), api.Running, "nowhere"), in(job(3, 1), api.Ready)}},
		{Tenants: []api.Tenant{{Name: "a", Quota: big[0]}, {Name: "a", Weight: -1}}, Nodes: []api.Node{{Name: "n", Capacity: big[1], Live: true, Seen: -1 << 63}, {Name: "m", Capacity: big[0], Live: true, Seen: 1<<63 - 1}}, Jobs: []api.Job{wild, in(job(2, 1), api.Ready), in(job(1, -5, 1), api.Running, "n", "m")}},
		{Tenants: []api.Tenant{a}, Nodes: []api.Node{n}, Jobs: []api.Job{long, in(job(2, 9), api.Ready), in(job(3, 1), api.Ready)}},
		{Tenants: []api.Tenant{a}, Nodes: []api.Node{n}, Jobs: []api.Job{in(job(1), api.Ready), in(job(2), api.Running), in(job(3, 1, 1, 1, 1, 1, 1, 1), api.Ready), in(job(300, 1), api.Ready), in(of("a", 500, 4, 1), api.Ready), in(of("b", 5, 5, 1), api.Ready)}},
		{Tenants: []api.Tenant{{Name: "a", Weight: 0, Quota: vec(5)}}, Nodes: []api.Node{n}, Jobs: []api.Job{in(job(1, 1), api.Ready), wild, wild}},
		{Tenants: make([]api.Tenant, 40), Nodes: make([]api.Node, 40), Jobs: make([]api.Job, 400)},
		{Tenants: slices.Repeat([]api.Tenant{a}, 20), Nodes: manyNodes(40), Jobs: manyJobs(150)},
	}
}

func manyNodes(n int) []api.Node {
	var l []api.Node
	for i := range n {
		l = append(l, api.Node{Name: strings.Repeat("n", n-i), Capacity: vec(3), Live: i%3 > 0})
	}
	return l
}

func manyJobs(n int) []api.Job {
	var l []api.Job
	for i := range n {
		j := of("a", int64(i%3), int64(n-i), 1)
		if j.State = 1 + i%7; j.State == api.Running {
			j.Nodes = []string{"n"}
		}
		l = append(l, j)
	}
	return l
}
