package core_test

import (
	"fmt"
	"testing"

	"drover/api"
	"drover/core"
)

// vec is a vector of which the places behind those told are 0.
func vec(l ...int64) api.Vector {
	var v api.Vector
	copy(v[:], l)
	return v
}

func tenant(name string, quota ...int64) api.Tenant {
	return api.Tenant{Name: name, Weight: 1, Quota: vec(quota...)}
}

func joined(name string, quota ...int64) api.Record {
	return api.Joined{Tenant: tenant(name, quota...)}
}

func up(node string, epoch int64, capacity ...int64) api.Record {
	return api.Up{Node: node, Epoch: epoch, Capacity: vec(capacity...)}
}

// job is one of tenant a, with a task of each amount.
func job(id int64, amounts ...int64) api.Job {
	j := api.Job{ID: id, Tenant: "a", Priority: 5, Runtime: 10}
	for _, n := range amounts {
		j.Tasks = append(j.Tasks, vec(n))
	}
	return j
}

// child is a job of one task, which has these parents.
func child(id int64, parents ...int64) api.Job {
	j := job(id, 1)
	j.Parents = parents
	return j
}

func submitted(j api.Job) api.Record {
	return api.Submitted{Job: j}
}

func released(id int64) api.Record {
	return api.Released{Job: id}
}

func placed(id int64, nodes ...string) api.Record {
	return api.Placed{Job: id, Nodes: nodes}
}

func evicted(id int64) api.Record {
	return api.Evicted{Job: id}
}

func part(id int64, node string) api.Record {
	return api.Part{Job: id, Node: node}
}

func ended(id int64, state int) api.Record {
	return api.Ended{Job: id, State: state}
}

func beat(node string) api.Record {
	return api.Beat{Node: node}
}

func down(node string) api.Record {
	return api.Down{Node: node}
}

// played is a core that has played these records.
func played(t *testing.T, l ...api.Record) *core.Core {
	t.Helper()
	c := core.New()
	for _, r := range l {
		if _, e := c.Play(r); e != api.OK {
			t.Fatalf("%s: error %d", brief(r), e)
		}
	}
	return c
}

// stand is a core with the tenant a, the nodes m and n, and the jobs 1 to 4: 1 is Waiting, 2 Ready, 3 runs on both, 4 has succeeded.
func stand(t *testing.T, more ...api.Record) *core.Core {
	t.Helper()
	return played(t, append([]api.Record{
		joined("a", 20), up("n", 3, 9), up("m", 2, 4),
		submitted(job(1, 1)), submitted(job(2, 2, 3)), submitted(job(3, 1, 2, 1)), submitted(job(4, 4)),
		released(2), released(3), released(4),
		placed(4, "m"), part(4, "m"), ended(4, api.Succeeded),
		api.Ticked{}, placed(3, "n", "m", "n"),
	}, more...)...)
}

// P21.1: Joined: it is there, in its place; not a second time, and not beyond MaxTenants.
func TestJoined(t *testing.T) {
	c := core.New()
	weighty := api.Tenant{Name: "m", Weight: api.MaxWeight, Quota: api.Vector{1, 2, 3, top}}
	plays(t, c, "", joined("z"), api.Joined{Tenant: weighty}, joined("a", 7))
	is(t, c, core.State{Tenants: []api.Tenant{tenant("a", 7), weighty, tenant("z")}})
	playsNot(t, c, api.ErrState, joined("a", 7), joined("a", 8), joined("m"), joined("z", 1))
	for i := range api.MaxTenants - 3 {
		plays(t, c, "", joined(fmt.Sprint("b", i)))
	}
	playsNot(t, c, api.ErrState, joined("c"), joined("a"))
	if got := len(c.State().Tenants); got != api.MaxTenants {
		t.Fatalf("there are %d tenants", got)
	}
}

// P21.1: Up: a node is there, live, and seen now; again by a greater epoch alone, be it live or lost; not while a job runs there, and not beyond MaxNodes.
func TestUp(t *testing.T) {
	c := played(t, api.Ticked{})
	plays(t, c, "", up("n", 5, 1, 2, 3, 4), up("a", 1))
	a := api.Node{Name: "a", Epoch: 1, Seen: 1, Live: true}
	is(t, c, core.State{Now: 1, Nodes: []api.Node{a, {Name: "n", Epoch: 5, Capacity: api.Vector{1, 2, 3, 4}, Seen: 1, Live: true}}})
	playsNot(t, c, api.ErrState, up("n", 5, 1, 2, 3, 4), up("n", 4, 9), up("n", 1), up("a", 1))
	plays(t, c, "", api.Ticked{}, up("n", 6, 4), api.Ticked{}, down("n"))
	is(t, c, core.State{Now: 3, Nodes: []api.Node{a, {Name: "n", Epoch: 6, Capacity: vec(4), Seen: 2}}})
	playsNot(t, c, api.ErrState, up("n", 6, 4))
	plays(t, c, "", up("n", 1<<31-1, 9))
	is(t, c, core.State{Now: 3, Nodes: []api.Node{a, {Name: "n", Epoch: 1<<31 - 1, Capacity: vec(9), Seen: 3, Live: true}}})
	for i := range api.MaxNodes - 2 {
		plays(t, c, "", up(fmt.Sprint("b", i), 1))
	}
	playsNot(t, c, api.ErrState, up("c", 1))
	plays(t, c, "", up("a", 2))
	d := stand(t)
	playsNot(t, d, api.ErrState, up("n", 4, 9), up("m", 3, 9))
	// One that has reported has the job run there still.
	plays(t, d, "", part(3, "m"))
	playsNot(t, d, api.ErrState, up("m", 3, 9))
	plays(t, d, "kill n 3 3 1", evicted(3))
	plays(t, d, "", up("n", 4, 9), up("m", 3, 9))
}

// P21.1: Beat: of a live node alone; Down: of a live node on which no job runs.
func TestBeatDown(t *testing.T) {
	c := stand(t, api.Ticked{}, up("o", 1), down("o"))
	playsNot(t, c, api.ErrState, beat("o"), beat("p"), beat("a"), down("o"), down("p"), down("m"), down("n"))
	plays(t, c, "", beat("m"))
	if s := c.State(); s.Nodes[0].Seen != 2 || s.Nodes[1].Seen != 0 || s.Nodes[2].Seen != 2 || s.Nodes[2].Live {
		t.Fatalf("the nodes are %+v", s.Nodes)
	}
	plays(t, c, "", part(3, "m"))
	playsNot(t, c, api.ErrState, down("m"))
	plays(t, c, "kill n 3 3 1", evicted(3))
	plays(t, c, "", down("m"), beat("n"))
	playsNot(t, c, api.ErrState, beat("m"), down("m"))
	want := []api.Node{{Name: "m", Epoch: 2, Capacity: vec(4), Seen: 2}, {Name: "n", Epoch: 3, Capacity: vec(9), Seen: 2, Live: true}, {Name: "o", Epoch: 1, Seen: 2}}
	if got := c.State().Nodes; whole(got) != whole(want) {
		t.Fatalf("the nodes are %+v", got)
	}
}

// P21.1: Submitted: it is there, Waiting, in its place, with all that was told of it; not a second time, not without its tenant.
func TestSubmitted(t *testing.T) {
	c := played(t, joined("a"), joined("b", 1))
	j := api.Job{ID: 100, Tenant: "b", Priority: api.MaxPriority, Runtime: api.MaxRuntime, Parents: []int64{3, 7}, Tasks: []api.Vector{{1, 2, 3, 4}, {top}, {top}}}
	// Neither the quota nor a sum that is too great is in the way of the record.
	plays(t, c, "", submitted(j), submitted(job(1, 5)))
	j.State = api.Waiting
	one := job(1, 5)
	one.State = api.Waiting
	is(t, c, core.State{Tenants: []api.Tenant{tenant("a"), tenant("b", 1)}, Jobs: []api.Job{one, j}})
	stranger := job(2, 1)
	stranger.Tenant = "c"
	playsNot(t, c, api.ErrState, submitted(job(1, 5)), submitted(job(100, 1)), submitted(stranger))
	plays(t, c, "", joined("c"), submitted(stranger))
}

// P21.1: Submitted: no parent may descend from it, on whatever way; a parent that isn't there may be one.
func TestSubmittedDescends(t *testing.T) {
	c := played(t, joined("a"), submitted(child(1, 2)), submitted(child(3, 1, 9)), submitted(child(4, 3)), submitted(child(5, 1, 4)))
	for _, j := range []api.Job{child(2, 1), child(2, 3), child(2, 4), child(2, 5), child(2, 5, 6, 7), child(9, 3), child(9, 4), child(9, 5), child(9, 2, 4)} {
		playsNot(t, c, api.ErrState, submitted(j))
	}
	plays(t, c, "", submitted(child(9, 1)), submitted(child(2, 6, 7, 8)))
	playsNot(t, c, api.ErrState, submitted(child(6, 9)), submitted(child(7, 2)), submitted(child(8, 5)))
	plays(t, c, "", submitted(child(6, 10)), submitted(child(10)))
	// Those that have ended descend as they did.
	plays(t, c, "", ended(3, api.Cancelled), ended(4, api.Cancelled))
	playsNot(t, c, api.ErrState, submitted(child(7, 5)), submitted(child(8, 5)))
}

// P21.1: Submitted: no parent may have failed or been cancelled, but in what state else it likes.
func TestSubmittedParents(t *testing.T) {
	c := stand(t, submitted(job(5, 1)), submitted(job(6, 1)), ended(5, api.Failed), ended(6, api.Cancelled))
	playsNot(t, c, api.ErrState, submitted(child(7, 5)), submitted(child(7, 6)), submitted(child(7, 4, 5)), submitted(child(7, 1, 2, 3, 6)))
	plays(t, c, "", submitted(child(7, 1, 2, 3, 4)), submitted(child(8, 50)))
}

// P21.1: Released: a Waiting job whose parents are all Succeeded is Ready; others are not.
func TestReleased(t *testing.T) {
	c := stand(t, submitted(child(5, 4)), submitted(child(6, 3, 4)), submitted(child(7, 9)), submitted(child(8, 1)), submitted(child(10, 2)), submitted(child(11, 12)), submitted(job(12, 1)), submitted(job(13, 1)), submitted(child(14, 13)))
	plays(t, c, "", ended(12, api.Failed), ended(13, api.Cancelled))
	for _, id := range []int64{2, 3, 4, 6, 7, 8, 9, 10, 11, 12, 13, 14, 99} {
		playsNot(t, c, api.ErrState, released(id))
	}
	was := c.State()
	plays(t, c, "", released(5), released(1))
	was.Jobs[0].State, was.Jobs[4].State = api.Ready, api.Ready
	is(t, c, was)
	playsNot(t, c, api.ErrState, released(1), released(5), released(8))
	plays(t, c, "", part(3, "m"), part(3, "n"), ended(3, api.Succeeded), released(6))
}

// P21.1: Placed: a Ready job, with a node for each task, runs there from now on; workers are told to launch it, each once.
func TestPlaced(t *testing.T) {
	c := stand(t, api.Ticked{})
	was := c.State()
	plays(t, c, "launch m 2 2 1 0; launch n 3 2 1 1", placed(2, "m", "n"))
	was.Jobs[1].State, was.Jobs[1].Attempt, was.Jobs[1].Nodes, was.Jobs[1].Start = api.Running, 1, []string{"m", "n"}, 2
	is(t, c, was)
	playsNot(t, c, api.ErrState, placed(2, "m", "n"), placed(3, "n", "m", "n"), placed(1, "n"), placed(4, "n"), placed(5, "n"))
	d := played(t, joined("a", 50), up("c", 1, 9), up("b", 2, 9), up("a", 3, 9), submitted(job(1, 1, 2, 3, 4, 5, 3)), released(1))
	plays(t, d, "launch a 3 1 1 2,4; launch b 2 1 1 1,3,5; launch c 1 1 1 0", placed(1, "c", "b", "a", "b", "a", "b"))
	// With each placement the attempt rises.
	plays(t, d, "kill a 3 1 1; kill b 2 1 1; kill c 1 1 1; launch a 3 1 2 0,1; launch b 2 1 2 2,3; launch c 1 1 2 4,5", evicted(1), placed(1, "a", "a", "b", "b", "c", "c"))
	plays(t, d, "kill a 3 1 2; kill b 2 1 2; kill c 1 1 2", evicted(1))
	if j := d.State().Jobs[0]; j.Attempt != 2 {
		t.Fatalf("the job is %+v", j)
	}
}

// P21.1: Placed: there is a node for each task, all of them slots with room for what they are given, with what runs there.
func TestPlacedWithoutRoom(t *testing.T) {
	// Of m 2 are free of 4, of n 7 of 9.
	c := stand(t, up("o", 1, 9), down("o"), submitted(job(5, 8)), released(5), submitted(job(6, 3, 4)), released(6))
	for _, r := range []api.Record{
		placed(2, "m"), placed(2, "n", "n", "n"), placed(2, "n", "p"), placed(2, "o", "n"), placed(2, "n", "o"), placed(2, "n", "m"),
		placed(5, "m"), placed(5, "n"), placed(5, "o"), placed(6, "m", "n"), placed(6, "n", "m"), placed(6, "n"),
	} {
		playsNot(t, c, api.ErrState, r)
	}
	plays(t, c, "launch n 3 6 1 0,1", placed(6, "n", "n"))
	playsNot(t, c, api.ErrState, placed(2, "n", "n"), placed(2, "m", "n"))
	// What has reported has its room still, till the job ends.
	plays(t, c, "", part(6, "n"))
	playsNot(t, c, api.ErrState, placed(2, "m", "n"))
	plays(t, c, "launch m 2 2 1 0; launch n 3 2 1 1", ended(6, api.Succeeded), placed(2, "m", "n"))
	plays(t, c, "kill m 2 3 1; kill n 3 3 1; kill m 2 2 1; kill n 3 2 1; launch n 3 5 1 0", evicted(3), evicted(2), placed(5, "n"))
}

// P21.1: Placed: with what its tenant uses it is within the tenant's quota, of each resource.
func TestPlacedQuota(t *testing.T) {
	for i := range 4 {
		amount := func(n int64) api.Vector {
			var v api.Vector
			v[i] = n
			return v
		}
		of := func(id int64, tenant string, amounts ...int64) api.Record {
			j := api.Job{ID: id, Tenant: tenant, Runtime: 1}
			for _, n := range amounts {
				j.Tasks = append(j.Tasks, amount(n))
			}
			return submitted(j)
		}
		c := played(t,
			api.Joined{Tenant: api.Tenant{Name: "a", Weight: 1, Quota: amount(10)}}, api.Joined{Tenant: api.Tenant{Name: "b", Weight: 1, Quota: amount(top)}},
			api.Up{Node: "m", Epoch: 1, Capacity: amount(top)}, api.Up{Node: "n", Epoch: 1, Capacity: amount(top)}, api.Up{Node: "o", Epoch: 1, Capacity: amount(top)},
			of(1, "a", 2, 2), of(2, "a", 3, 3), of(3, "a", 4, 3), of(4, "b", top, 1), of(5, "b", top-1), of(6, "b", 2), of(7, "b", 1), of(8, "a", 11),
		)
		for id := range int64(8) {
			plays(t, c, "", released(id+1))
		}
		playsNot(t, c, api.ErrState, placed(8, "m"), placed(4, "m", "n"))
		plays(t, c, "launch m 1 1 1 0; launch n 1 1 1 1", placed(1, "m", "n"))
		playsNot(t, c, api.ErrState, placed(3, "m", "n"), placed(8, "m"))
		plays(t, c, "launch n 1 2 1 0,1; launch o 1 5 1 0", placed(2, "n", "n"), placed(5, "o"))
		playsNot(t, c, api.ErrState, placed(6, "m"), placed(3, "m", "m"))
		plays(t, c, "launch m 1 7 1 0", placed(7, "m"))
		plays(t, c, "kill m 1 1 1; kill n 1 1 1", evicted(1))
		playsNot(t, c, api.ErrState, placed(3, "m", "m"))
		plays(t, c, "kill n 1 2 1; launch m 1 3 1 0,1", evicted(2), placed(3, "m", "m"))
	}
}

// P21.1: Evicted: a running job is Ready again; nodes that have reported are told nothing.
func TestEvicted(t *testing.T) {
	c := stand(t, api.Ticked{})
	playsNot(t, c, api.ErrState, evicted(1), evicted(2), evicted(4), evicted(5))
	was := c.State()
	plays(t, c, "kill m 2 3 1; kill n 3 3 1", evicted(3))
	was.Jobs[2].State, was.Jobs[2].Nodes, was.Jobs[2].Start = api.Ready, nil, 0
	is(t, c, was)
	playsNot(t, c, api.ErrState, evicted(3))
	plays(t, c, "launch m 2 3 2 0,1; launch n 3 3 2 2; kill m 2 3 2", placed(3, "m", "m", "n"), part(3, "n"), evicted(3))
	was.Jobs[2].Attempt = 2
	is(t, c, was)
	plays(t, c, "launch n 3 3 3 0,1,2", placed(3, "n", "n", "n"), part(3, "n"), evicted(3))
}

// P21.1: Part: a node of a running job is done, each once, rising; others are not.
func TestPart(t *testing.T) {
	c := stand(t, up("l", 1, 9), up("o", 1, 9))
	playsNot(t, c, api.ErrState, part(1, "n"), part(2, "n"), part(4, "m"), part(5, "n"), part(3, "o"), part(3, "p"))
	plays(t, c, "launch l 1 2 1 1; launch o 1 2 1 0", placed(2, "o", "l"))
	was := c.State()
	for i, want := range [][]string{{"n"}, {"m", "n"}} {
		plays(t, c, "", part(3, []string{"n", "m"}[i]))
		was.Jobs[2].Done = want
		is(t, c, was)
		playsNot(t, c, api.ErrState, part(3, "n"), part(3, "o"), part(2, "m"), part(2, "n"))
	}
	playsNot(t, c, api.ErrState, part(3, "m"))
	plays(t, c, "", part(2, "l"), part(2, "o"))
	was.Jobs[1].Done = []string{"l", "o"}
	is(t, c, was)
}

// P21.1: Ended: a job that hasn't ended may fail or be cancelled; one that runs is killed where it hasn't reported.
func TestEnded(t *testing.T) {
	for _, state := range []int{api.Failed, api.Cancelled} {
		c := stand(t, part(3, "n"))
		playsNot(t, c, api.ErrState, ended(4, state), ended(5, state), ended(100, state))
		was := c.State()
		plays(t, c, "", ended(1, state))
		plays(t, c, "", ended(2, state))
		plays(t, c, "kill m 2 3 1", ended(3, state))
		was.Jobs[0].State, was.Jobs[1].State = state, state
		was.Jobs[2] = api.Job{ID: 3, Tenant: "a", Priority: 5, Runtime: 10, Tasks: job(3, 1, 2, 1).Tasks, State: state, Attempt: 1}
		is(t, c, was)
		for _, again := range []int{api.Succeeded, api.Failed, api.Cancelled} {
			playsNot(t, c, api.ErrState, ended(1, again), ended(2, again), ended(3, again), ended(4, again))
		}
		playsNot(t, c, api.ErrState, released(1), placed(2, "n", "n"), evicted(3), part(3, "m"))
	}
}

// P21.1: Ended: a job succeeds, if it runs, and all of its nodes are done.
func TestSucceeded(t *testing.T) {
	c := stand(t)
	succeeds := func(id int64) api.Record { return ended(id, api.Succeeded) }
	playsNot(t, c, api.ErrState, succeeds(1), succeeds(2), succeeds(3), succeeds(4), succeeds(5))
	plays(t, c, "", part(3, "m"))
	playsNot(t, c, api.ErrState, succeeds(3))
	plays(t, c, "", part(3, "n"))
	was := c.State()
	plays(t, c, "", succeeds(3))
	was.Jobs[2] = api.Job{ID: 3, Tenant: "a", Priority: 5, Runtime: 10, Tasks: job(3, 1, 2, 1).Tasks, State: api.Succeeded, Attempt: 1}
	is(t, c, was)
	// One that was done, and was evicted then, runs no more.
	plays(t, c, "launch m 2 2 1 0; launch n 3 2 1 1", placed(2, "m", "n"), part(2, "m"), part(2, "n"), evicted(2))
	playsNot(t, c, api.ErrState, succeeds(2))
	plays(t, c, "launch n 3 2 2 0,1", placed(2, "n", "n"))
	playsNot(t, c, api.ErrState, succeeds(2))
	plays(t, c, "", part(2, "n"), succeeds(2))
	// Nobody is told of one that has been done everywhere and fails.
	d := stand(t, part(3, "m"), part(3, "n"))
	plays(t, d, "", ended(3, api.Failed))
}

// P21.1: Ticked: it is one tick later, but MaxNow is the last.
func TestTicked(t *testing.T) {
	c := core.New()
	for i := range int64(20) {
		is(t, c, core.State{Now: i})
		plays(t, c, "", api.Ticked{})
	}
	c = core.Of(core.State{Now: late - 1})
	plays(t, c, "", api.Ticked{})
	is(t, c, core.State{Now: late})
	playsNot(t, c, api.ErrState, api.Ticked{})
}

// odd is a record of none of the eleven types.
type odd struct{ kind int }

func (o odd) Kind() int { return o.kind }

// P21.1: what isn't formed is refused as that, be it possible else or not.
func TestPlayNotFormed(t *testing.T) {
	told := job(5, 1)
	told.State = api.Waiting
	long := "abcdefghijklmnopq"
	for _, c := range []*core.Core{core.New(), stand(t), core.Of(core.State{Now: late})} {
		playsNot(t, c, api.ErrForm,
			nil, odd{1}, odd{11}, &api.Ticked{}, (*api.Ticked)(nil), &api.Beat{Node: "n"},
			api.Joined{}, api.Joined{Tenant: api.Tenant{Name: "b"}}, api.Joined{Tenant: api.Tenant{Name: "a", Weight: 1001}}, joined("b", -1), joined("b c"),
			up("o", 0), up("n", -1), up("o", 1<<31), up("o", 1, top+1), up("", 1), up(long, 1),
			beat(""), beat(long), down(""), down("a b"),
			submitted(api.Job{}), submitted(job(0, 1)), submitted(job(101, 1)), submitted(job(5)), submitted(job(5, -1)), submitted(told),
			submitted(child(5, 5)), submitted(child(5, 2, 1)), submitted(child(5, 1, 2, 3, 4, 6)), submitted(job(5, 1, 1, 1, 1, 1, 1, 1)),
			released(0), released(101), released(-1), evicted(0), evicted(101),
			placed(2), placed(0, "n"), placed(2, "n", ""), placed(2, "n", "n", "n", "n", "n", "n", "n"),
			part(3, ""), part(0, "n"), part(101, "n"),
			ended(3, 0), ended(3, api.Running), ended(3, 7), ended(0, api.Failed), ended(101, api.Failed),
		)
	}
}
