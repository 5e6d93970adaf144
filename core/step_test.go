package core_test

import (
	"fmt"
	"reflect"
	"testing"

	"drover/api"
	"drover/core"
)

// P21.2: tenant: refused, if it is there, even where there are MaxTenants; or if there are so many.
func TestTenant(t *testing.T) {
	c := core.New()
	steps(t, c, step{"tenant b 2 1:2:3:4", "ok", "joined b", ""})
	for i := range api.MaxTenants - 1 {
		refuses(t, c, api.ErrTwice, "tenant b 2 1:2:3:4", "tenant b 1 9:9:9:9")
		steps(t, c, step{fmt.Sprint("tenant a", i, " 1 1:1:1:1"), "ok", fmt.Sprint("joined a", i), ""})
	}
	refuses(t, c, api.ErrTwice, "tenant b 2 1:2:3:4", "tenant a0 1 1:1:1:1")
	refuses(t, c, api.ErrFull, "tenant c 1 1:1:1:1", "tenant a 1000 0:0:0:0")
	want := api.Tenant{Name: "b", Weight: 2, Quota: vec(1, 2, 3, 4)}
	if got := c.State().Tenants; len(got) != api.MaxTenants || got[len(got)-1] != want {
		t.Fatalf("the tenants are %+v", got)
	}
}

// P21.2: the records say all of what the command says.
func TestRecordsAreWhole(t *testing.T) {
	c := core.New()
	for line, want := range map[string]api.Record{
		"tenant b 2 1:2:3:4": api.Joined{Tenant: api.Tenant{Name: "b", Weight: 2, Quota: vec(1, 2, 3, 4)}},
		"up n 7 4:3:2:1":     api.Up{Node: "n", Epoch: 7, Capacity: vec(4, 3, 2, 1)},
	} {
		if _, records, _ := c.Step(parsed(t, line)); len(records) != 1 || records[0] != want {
			t.Fatalf("%s: the records are %+v", line, records)
		}
	}
	_, records, _ := c.Step(parsed(t, "submit 9 b 8 7 6,5,6 1:0:0:1 0:2:3:0"))
	want := api.Job{ID: 9, Tenant: "b", Priority: 8, Runtime: 7, Parents: []int64{5, 6}, Tasks: []api.Vector{{1, 0, 0, 1}, {0, 2, 3, 0}}}
	if len(records) != 1 || whole(records[0]) != whole(api.Submitted{Job: want}) {
		t.Fatalf("the records are %+v, not of %+v", records, want)
	}
	want.State = api.Waiting
	if got := c.State().Jobs; len(got) != 1 || whole(got[0]) != whole(want) {
		t.Fatalf("the jobs are %+v", got)
	}
}

// jungle is a core in which a submit can be refused in all ways: 1 descends from 9, 2 failed, 3 was cancelled, 4 succeeded.
func jungle(t *testing.T) *core.Core {
	return played(t,
		joined("a", 5, 5, 5, 5), joined("z", top, top, top, top), up("n", 1, 1), submitted(child(8, 9)), submitted(child(1, 8)),
		submitted(job(2, 1)), ended(2, api.Failed), submitted(job(3, 1)), ended(3, api.Cancelled),
		submitted(job(4, 1)), released(4), placed(4, "n"), part(4, "n"), ended(4, api.Succeeded), down("n"),
	)
}

// P21.2: submit: what it is refused for, each alone.
func TestSubmitRefused(t *testing.T) {
	c := jungle(t)
	refuses(t, c, api.ErrTwice, "submit 1 a 5 10 - 1:0:0:0", "submit 2 a 5 10 - 1:0:0:0", "submit 3 a 5 10 - 1:0:0:0", "submit 4 a 5 10 - 1:0:0:0", "submit 8 a 5 10 9 1:0:0:0")
	refuses(t, c, api.ErrNone, "submit 9 b 5 10 - 1:0:0:0", "submit 9 aa 5 10 - 1:0:0:0", "submit 9 n 5 10 - 1:0:0:0")
	refuses(t, c, api.ErrCycle, "submit 9 a 5 10 8 1:0:0:0", "submit 9 a 5 10 1 1:0:0:0", "submit 9 a 5 10 4,7,8 1:0:0:0")
	refuses(t, c, api.ErrState, "submit 9 a 5 10 2 1:0:0:0", "submit 9 a 5 10 3 1:0:0:0", "submit 9 a 5 10 3,4,7 1:0:0:0", "submit 10 a 5 10 1,2 1:0:0:0")
	most := fmt.Sprint(int64(top))
	refuses(t, c, api.ErrOver, "submit 9 z 5 10 - 1:0:0:0 "+most+":0:0:0", "submit 9 z 5 10 - 0:1:0:0 0:"+most+":0:0", "submit 9 z 5 10 - 0:0:0:"+most+" 1:0:0:0 0:0:0:1", "submit 9 a 5 10 - 0:0:"+most+":0 0:0:"+most+":0")
	refuses(t, c, api.ErrQuota, "submit 9 a 5 10 - 6:0:0:0", "submit 9 a 5 10 - 3:0:0:0 3:0:0:0", "submit 9 a 5 10 - 0:0:0:1 0:0:0:5", "submit 9 a 5 10 4 0:6:0:0", "submit 9 a 5 10 - 0:0:6:0", "submit 9 a 5 10 - "+most+":0:0:0")
	steps(t, c,
		step{"submit 9 a 5 10 - 2:5:0:1 3:0:5:4", "ok", "submitted 9; released 9", ""},
		step{"submit 100 z 5 10 4 " + most + ":0:0:0 0:0:0:" + most, "ok", "submitted 100; released 100", ""},
		step{"submit 10 a 0 1 4,7 0:0:0:0", "ok", "submitted 10", ""},
		step{"submit 11 a 0 1 4,9 0:0:0:0", "ok", "submitted 11", ""},
	)
}

// P21.2, R2: submit: of several errors the answer is that which stands first.
func TestSubmitRefusedFirst(t *testing.T) {
	c := jungle(t)
	most := fmt.Sprint(int64(top))
	for i, x := range []struct {
		parents, tasks string
	}{{"1,2", most + ":0:0:0 1:0:0:0"}, {"1", "6:0:0:0"}, {"2", most + ":0:0:0 1:0:0:0"}, {"2", "6:0:0:0"}, {"-", most + ":0:0:0 1:0:0:0"}, {"-", "6:0:0:0"}, {"-", "1:0:0:0"}} {
		behind := x.parents + " " + x.tasks
		refuses(t, c, api.ErrTwice, "submit 1 b 5 10 2 "+x.tasks, "submit 4 a 5 10 2,3 "+x.tasks, "submit 8 a 5 10 1,2 "+x.tasks)
		refuses(t, c, api.ErrNone, "submit 9 b 5 10 "+behind)
		want := []api.Errno{api.ErrCycle, api.ErrCycle, api.ErrState, api.ErrState, api.ErrOver, api.ErrQuota}
		if i < len(want) {
			refuses(t, c, want[i], "submit 9 a 5 10 "+behind)
		}
	}
	// Wherever among the parents the worse one stands.
	refuses(t, c, api.ErrCycle, "submit 9 a 5 10 1,2,3 1:0:0:0", "submit 9 a 5 10 2,3,8 1:0:0:0")
}

// P21.2: submit: a quota that is used up is no reason to refuse.
func TestSubmitBeyondUse(t *testing.T) {
	c := doing(t, "tenant a 1 4:0:0:0", "up n 1 9:0:0:0")
	steps(t, c,
		step{"submit 1 a 5 10 - 4:0:0:0", "ok", "submitted 1; released 1; placed 1 n", "launch n 1 1 1 0"},
		step{"submit 2 a 5 10 - 4:0:0:0", "ok", "submitted 2; released 2", ""},
		step{"submit 3 a 5 10 2 4:0:0:0", "ok", "submitted 3", ""},
	)
}

// P21.2: cancel: of a job that is there and hasn't ended; with it all fails that descends from it, over however many steps, but what has ended.
func TestCancel(t *testing.T) {
	c := doing(t, "tenant a 1 9:9:9:9", "up n 1 9:0:0:0")
	refuses(t, c, api.ErrNone, "cancel 1", "cancel 100")
	steps(t, c,
		step{"submit 7 a 5 10 - 1:0:0:0 1:0:0:0", "ok", "submitted 7; released 7; placed 7 n n", "launch n 1 7 1 0,1"},
		step{"submit 3 a 5 10 7 1:0:0:0", "ok", "submitted 3", ""},
		step{"submit 9 a 5 10 3 1:0:0:0", "ok", "submitted 9", ""},
		step{"submit 1 a 5 10 9 1:0:0:0", "ok", "submitted 1", ""},
		step{"submit 5 a 5 10 1,3 1:0:0:0", "ok", "submitted 5", ""},
		step{"submit 6 a 5 10 50 1:0:0:0", "ok", "submitted 6", ""},
		step{"submit 2 a 5 10 - 9:0:0:0", "ok", "submitted 2; released 2", ""},
		step{"cancel 9", "ok", "cancelled 9; failed 1; failed 5", ""},
	)
	refuses(t, c, api.ErrState, "cancel 9", "cancel 1", "cancel 5")
	// What ended goes on to stand between 7 and those below it.
	steps(t, c, step{"cancel 7", "ok", "cancelled 7; failed 3; placed 2 n", "kill n 1 7 1; launch n 1 2 1 0"})
	refuses(t, c, api.ErrState, "cancel 7", "cancel 3")
	steps(t, c,
		step{"cancel 6", "ok", "cancelled 6", ""},
		step{"done n 1 2 1", "ok", "part 2 n; succeeded 2", ""},
	)
	refuses(t, c, api.ErrState, "cancel 2")
	refuses(t, c, api.ErrNone, "cancel 50")
	jobs(t, c, "job 1 failed 0", "job 2 succeeded 1", "job 3 failed 0", "job 5 failed 0", "job 6 cancelled 0", "job 7 cancelled 1", "job 9 cancelled 0")
}

// P21.2: cancel, fail: one that descends through those that have ended fails too, if it hasn't ended.
func TestDescendsThroughEnded(t *testing.T) {
	for _, x := range []step{
		{"cancel 1", "ok", "cancelled 1; failed 2; failed 4", "kill n 1 1 1"},
		{"fail n 1 1 1", "ok", "failed 1; failed 2; failed 4", "kill n 1 1 1"},
	} {
		c := played(t, joined("a", 9), up("n", 1, 1), submitted(job(1, 1)), submitted(child(3, 1)), submitted(child(2, 3, 7)), submitted(child(4, 5)), submitted(child(5, 3)), submitted(child(6, 8)),
			released(1), placed(1, "n"), ended(3, api.Failed), ended(5, api.Cancelled))
		steps(t, c, x)
		refuses(t, c, api.ErrState, "cancel 2", "cancel 4")
		steps(t, c, step{"query 6", "job 6 waiting 0", "", ""})
	}
}

// P21.2: query: a job's line in each state; nodes: all of them, rising.
func TestQueryNodes(t *testing.T) {
	c := stand(t, submitted(job(5, 1)), ended(5, api.Failed), submitted(job(6, 1)), ended(6, api.Cancelled))
	steps(t, c,
		step{"query 1", "job 1 waiting 0", "", ""},
		step{"query 2", "job 2 ready 0", "", ""},
		step{"query 3", "job 3 running 1 at n m n", "", ""},
		step{"query 4", "job 4 succeeded 1", "", ""},
		step{"query 5", "job 5 failed 0", "", ""},
		step{"query 6", "job 6 cancelled 0", "", ""},
		step{"nodes", "node m 2 live 4:0:0:0; node n 3 live 9:0:0:0; ok", "", ""},
	)
	refuses(t, c, api.ErrNone, "query 7", "query 100")
	plays(t, c, "kill m 2 3 1; kill n 3 3 1", evicted(3), down("n"))
	steps(t, c, step{"nodes", "node m 2 live 4:0:0:0; node n 3 lost 9:0:0:0; ok", "", ""})
	steps(t, core.New(), step{"nodes", "ok", "", ""})
	refuses(t, core.New(), api.ErrNone, "query 1")
}

// P21.2: query, beat and nodes have no round: who could be placed isn't.
func TestNoRound(t *testing.T) {
	c := stand(t)
	steps(t, c,
		step{"query 2", "job 2 ready 0", "", ""},
		step{"nodes", "node m 2 live 4:0:0:0; node n 3 live 9:0:0:0; ok", "", ""},
		step{"beat n 3", "ok", "beat n", ""},
		step{"query 2", "job 2 ready 0", "", ""},
	)
	for _, line := range []string{"tenant b 1 0:0:0:0", "submit 9 a 0 1 50 0:0:0:0", "cancel 1", "up o 1 0:0:0:0", "tick", "done n 3 3 1", "fail n 3 3 1"} {
		c := stand(t)
		refuses(t, c, api.ErrTwice, "tenant a 1 0:0:0:0")
		does(t, c, line)
		if s := c.State(); s.Jobs[1].State != api.Running {
			t.Fatalf("behind %s there was no round", line)
		}
	}
}

// P21.2: up: a node that is there registers anew by a greater epoch alone; who runs there is evicted ahead of that, rising.
func TestUpOfANode(t *testing.T) {
	c := doing(t, "tenant a 1 9:9:9:9", "up n 5 6:0:0:0", "up m 1 1:0:0:0", "submit 8 a 5 10 - 1:0:0:0", "submit 2 a 5 10 - 2:0:0:0 1:0:0:0", "submit 5 a 6 10 - 2:0:0:0 0:0:0:0")
	jobs(t, c, "job 2 running 1 at n n", "job 5 running 1 at n m", "job 8 running 1 at m")
	refuses(t, c, api.ErrStale, "up n 5 6:0:0:0", "up n 4 9:0:0:0", "up n 1 6:0:0:0", "up m 1 9:0:0:0")
	steps(t, c, step{"up n 6 2:0:0:0", "ok", "evicted 2; evicted 5; up n 6; placed 5 n m", "kill n 5 2 1; kill m 1 5 1; kill n 5 5 1; launch m 1 5 2 1; launch n 6 5 2 0"})
	is(t, c, core.State{
		Tenants: []api.Tenant{tenant("a", 9, 9, 9, 9)},
		Nodes:   []api.Node{{Name: "m", Epoch: 1, Capacity: vec(1), Live: true}, {Name: "n", Epoch: 6, Capacity: vec(2), Live: true}},
		Jobs: []api.Job{
			{ID: 2, Tenant: "a", Priority: 5, Runtime: 10, Tasks: []api.Vector{{2}, {1}}, State: api.Ready, Attempt: 1},
			{ID: 5, Tenant: "a", Priority: 6, Runtime: 10, Tasks: []api.Vector{{2}, {}}, State: api.Running, Attempt: 2, Nodes: []string{"n", "m"}},
			{ID: 8, Tenant: "a", Priority: 5, Runtime: 10, Tasks: []api.Vector{{1}}, State: api.Running, Attempt: 1, Nodes: []string{"m"}},
		},
	})
	for i := range api.MaxNodes - 2 {
		steps(t, c, step{fmt.Sprint("up a", i, " 1 0:0:0:0"), "ok", fmt.Sprint("up a", i, " 1"), ""})
	}
	refuses(t, c, api.ErrFull, "up b 1 0:0:0:0", "up a 9 9:9:9:9")
	refuses(t, c, api.ErrStale, "up m 1 0:0:0:0", "up a0 1 0:0:0:0")
	steps(t, c, step{"up a0 2147483647 0:0:0:0", "ok", "up a0 2147483647", ""})
	refuses(t, c, api.ErrStale, "up a0 2147483647 0:0:0:0")
}

// P21.2: up: one who has reported isn't told to be killed there, and yet is evicted.
func TestUpOfADoneNode(t *testing.T) {
	c := doing(t, "tenant a 1 9:9:9:9", "up m 1 1:0:0:0", "up n 1 1:0:0:0", "submit 1 a 5 10 - 1:0:0:0 1:0:0:0", "done n 1 1 1")
	steps(t, c, step{"up n 2 1:0:0:0", "ok", "evicted 1; up n 2; placed 1 m n", "kill m 1 1 1; launch m 1 1 2 0; launch n 2 1 2 1"})
}

// P21.2: beat: of a live node and its epoch alone; it is seen now.
func TestBeatOfANode(t *testing.T) {
	c := doing(t, "up m 3 0:0:0:0", "tick", "up n 3 0:0:0:0", "tick")
	refuses(t, c, api.ErrNone, "beat o 3", "beat mm 3")
	refuses(t, c, api.ErrStale, "beat m 2", "beat m 4", "beat m 2147483647")
	steps(t, c, step{"beat m 3", "ok", "beat m", ""})
	if s := c.State(); s.Nodes[0].Seen != 2 || s.Nodes[1].Seen != 1 {
		t.Fatalf("the nodes are %+v", s.Nodes)
	}
	plays(t, c, "", down("m"))
	refuses(t, c, api.ErrStale, "beat m 3", "beat m 4", "beat m 2")
}

// P21.2: done, fail: what they are refused for, each alone and several at once.
func TestReportRefused(t *testing.T) {
	// 3 runs on m and n, 2 is ready, 1 waits, 4 succeeded; l is lost, o has nobody.
	c := stand(t, up("l", 7, 1), down("l"), up("o", 8, 0), part(3, "m"))
	for _, word := range []string{"done ", "fail "} {
		refuses(t, c, api.ErrNone, word+"p 3 3 1", word+"n 3 5 1", word+"n 3 100 1", word+"p 3 5 1", word+"l 7 5 1", word+"n 2 5 2", word+"p 2 4 2")
		refuses(t, c, api.ErrStale,
			word+"n 2 3 1", word+"n 4 3 1", word+"n 3 3 2", word+"o 8 3 1", word+"m 2 3 1", word+"l 7 3 1",
			word+"n 3 1 1", word+"n 3 2 1", word+"m 2 4 1", word+"l 6 1 9", word+"n 3 3 2147483647", word+"n 2147483647 3 1")
	}
	plays(t, c, "kill n 3 3 1", evicted(3))
	refuses(t, c, api.ErrStale, "done n 3 3 1", "fail n 3 3 1")
	plays(t, c, "launch n 3 3 2 0,1,2", placed(3, "n", "n", "n"))
	refuses(t, c, api.ErrStale, "done n 3 3 1", "fail n 3 3 1", "done m 2 3 2")
	steps(t, c, step{"done n 3 3 2", "ok", "part 3 n; succeeded 3; released 1; placed 1 m; placed 2 n m", "launch m 2 1 1 0; launch m 2 2 1 1; launch n 3 2 1 0"})
}

// P21.2: done: a job succeeds when the last of its nodes has reported; then those are released whose parents have all succeeded, rising.
func TestDone(t *testing.T) {
	c := doing(t, "tenant a 1 9:9:9:9", "up n 1 2:0:0:0", "up m 2 2:0:0:0",
		"submit 5 a 5 10 - 2:0:0:0 1:0:0:0 1:0:0:0", "submit 9 a 5 10 5 1:0:0:0", "submit 2 a 5 10 5 1:0:0:0", "submit 4 a 5 10 5,9 1:0:0:0", "submit 7 a 5 10 5,8 1:0:0:0", "submit 6 a 7 10 - 2:0:0:0 1:0:0:0 1:0:0:0")
	// The greater one has driven out the other.
	steps(t, c,
		step{"query 6", "job 6 running 1 at m n n", "", ""},
		step{"done n 1 6 1", "ok", "part 6 n", ""},
		step{"done n 1 6 1", "error 14", "", ""},
		step{"done m 2 6 1", "ok", "part 6 m; succeeded 6; placed 5 m n n", "launch m 2 5 2 0; launch n 1 5 2 1,2"},
		step{"done m 2 5 1", "error 14", "", ""},
		step{"done m 2 5 2", "ok", "part 5 m", ""},
		step{"done n 1 5 2", "ok", "part 5 n; succeeded 5; released 2; released 9; placed 2 m; placed 9 m", "launch m 2 2 1 0; launch m 2 9 1 0"},
		step{"done m 2 9 1", "ok", "part 9 m; succeeded 9; released 4; placed 4 m", "launch m 2 4 1 0"},
	)
	jobs(t, c, "job 2 running 1 at m", "job 4 running 1 at m", "job 5 succeeded 2", "job 6 succeeded 1", "job 7 waiting 0", "job 9 succeeded 1")
}

// P21.2: done: each job is released of which that is possible then, be it below the one that has succeeded or not.
func TestDoneReleasesAll(t *testing.T) {
	c := stand(t, submitted(child(9, 4)), submitted(child(8, 2)))
	steps(t, c,
		step{"done n 3 3 1", "ok", "part 3 n; placed 2 m n", "launch m 2 2 1 0; launch n 3 2 1 1"},
		step{"done m 2 3 1", "ok", "part 3 m; succeeded 3; released 1; released 9; placed 1 m; placed 9 m", "launch m 2 1 1 0; launch m 2 9 1 0"},
	)
}

// P21.2: fail: the job fails, is killed where it hasn't reported, on the node that tells it too, and all fails that descends from it.
func TestFail(t *testing.T) {
	c := doing(t, "tenant a 1 9:9:9:9", "up l 1 1:0:0:0", "up n 1 1:0:0:0", "up m 2 1:0:0:0",
		"submit 5 a 5 10 - 1:0:0:0 1:0:0:0 1:0:0:0", "submit 9 a 5 10 5 1:0:0:0", "submit 2 a 5 10 9 1:0:0:0", "submit 4 a 5 10 8 1:0:0:0", "submit 3 a 5 10 - 1:0:0:0", "cancel 9")
	steps(t, c,
		step{"done m 2 5 1", "ok", "part 5 m", ""},
		step{"fail m 2 5 1", "error 14", "", ""},
		step{"submit 1 a 5 10 4,5 1:0:0:0", "ok", "submitted 1", ""},
		step{"fail n 1 5 1", "ok", "failed 5; failed 1; placed 3 l", "kill l 1 5 1; kill n 1 5 1; launch l 1 3 1 0"},
		step{"fail n 1 5 1", "error 14", "", ""},
		step{"done l 1 5 1", "error 14", "", ""},
	)
	jobs(t, c, "job 1 failed 0", "job 2 failed 0", "job 3 running 1 at l", "job 4 waiting 0", "job 5 failed 1", "job 9 cancelled 0")
}

// P21.2: tick: leases end that are over, rising by the nodes; who runs there is evicted ahead of that.
func TestTick(t *testing.T) {
	c := doing(t, "tenant a 1 9:9:9:9", "up n 1 3:0:0:0", "up c 1 1:0:0:0", "tick", "up m 1 2:0:0:0", "beat c 1", "submit 4 a 5 99 - 1:0:0:0", "submit 2 a 5 99 - 2:0:0:0 1:0:0:0", "submit 7 a 5 99 - 1:0:0:0", "submit 1 a 4 99 - 1:0:0:0")
	jobs(t, c, "job 1 running 1 at n", "job 2 running 1 at m n", "job 4 running 1 at c", "job 7 running 1 at n")
	for range 8 {
		steps(t, c, step{"tick", "ok", "ticked", ""})
	}
	// n alone was seen at 0. Behind it 2 waits at the head till 4 ends, and 7 and 1 would be in its way.
	steps(t, c, step{"tick", "ok", "ticked; evicted 1; evicted 2; evicted 7; down n", "kill n 1 1 1; kill m 1 2 1; kill n 1 2 1; kill n 1 7 1"})
	does(t, c, "beat m 1")
	// Without c 2 has no start any more.
	steps(t, c,
		step{"tick", "ok", "ticked; evicted 4; down c; placed 4 m; placed 7 m", "kill c 1 4 1; launch m 1 4 2 0; launch m 1 7 2 0"},
		step{"nodes", "node c 1 lost 1:0:0:0; node m 1 live 2:0:0:0; node n 1 lost 3:0:0:0; ok", "", ""},
	)
	for range 8 {
		steps(t, c, step{"tick", "ok", "ticked", ""})
	}
	steps(t, c, step{"tick", "ok", "ticked; evicted 4; evicted 7; down m", "kill m 1 4 2; kill m 1 7 2"})
}

// P21.2: tick: several leases that end at once, of which one gang has two nodes; what is lost is lost once.
func TestTickManyLost(t *testing.T) {
	c := doing(t, "tenant a 1 9:9:9:9", "up n 1 1:0:0:0", "up m 2 1:0:0:0", "up l 3 1:0:0:0", "submit 8 a 5 99 - 1:0:0:0 1:0:0:0", "submit 3 a 5 99 - 1:0:0:0", "done l 3 8 1")
	for range 9 {
		steps(t, c, step{"tick", "ok", "ticked", ""})
	}
	steps(t, c,
		step{"tick", "ok", "ticked; evicted 8; down l; down m; evicted 3; down n", "kill m 2 8 1; kill n 1 3 1"},
		step{"tick", "ok", "ticked", ""},
		step{"up m 3 1:0:0:0", "ok", "up m 3; placed 3 m", "launch m 3 3 2 0"},
	)
}

// P21.2: tick: refused at MaxNow; leases end up to then.
func TestTickAtMaxNow(t *testing.T) {
	c := core.Of(core.State{Now: late - 1, Nodes: []api.Node{{Name: "a", Epoch: 1, Seen: late - 9, Live: true}, {Name: "b", Epoch: 1, Seen: late - 10, Live: true}, {Name: "c", Epoch: 1, Seen: late - 1, Live: true}}})
	steps(t, c, step{"tick", "ok", "ticked; down b", ""})
	refuses(t, c, api.ErrRange, "tick", "tick")
	steps(t, c,
		step{"beat a 1", "ok", "beat a", ""},
		step{"nodes", "node a 1 live 0:0:0:0; node b 1 lost 0:0:0:0; node c 1 live 0:0:0:0; ok", "", ""},
		step{"up b 2 1:0:0:0", "ok", "up b 2", ""},
		step{"tenant a 1 9:9:9:9", "ok", "joined a", ""},
		step{"submit 1 a 5 10 - 1:0:0:0", "ok", "submitted 1; released 1; placed 1 b", "launch b 2 1 1 0"},
		step{"submit 2 a 5 10 - 1:0:0:0", "ok", "submitted 2; released 2", ""},
		// The head waits, and nobody is admitted, as none can end.
		step{"submit 3 a 5 1 - 0:0:0:0", "ok", "submitted 3; released 3", ""},
		step{"submit 4 a 6 1 - 1:0:0:0", "ok", "submitted 4; released 4; evicted 1; placed 4 b", "kill b 2 1 1; launch b 2 4 1 0"},
	)
}

// P21.2: what is refused has nothing beside its reply.
func TestRefusedHasNothing(t *testing.T) {
	c := stand(t)
	for _, line := range []string{"tenant a 1 1:1:1:1", "submit 1 a 1 1 - 1:1:1:1", "cancel 4", "query 9", "up n 3 1:1:1:1", "beat n 2", "done n 3 3 2", "fail n 3 9 1"} {
		reply, records, told := c.Step(parsed(t, line))
		if len(reply) != 1 || len(records) != 0 || len(told) != 0 {
			t.Fatalf("%s: %q, %v, %v", line, reply, records, told)
		}
	}
	if !reflect.DeepEqual(c.State(), stand(t).State()) {
		t.Fatal("what is refused has changed the state")
	}
}
