package core_test

import (
	"fmt"
	"testing"

	"drover/api"
	"drover/core"
)

// of is a job of that tenant and priority, with a task of each amount.
func of(tenant string, priority, id int64, amounts ...int64) api.Job {
	j := job(id, amounts...)
	j.Tenant, j.Priority = tenant, priority
	return j
}

// lasting is a job with another runtime.
func lasting(j api.Job, runtime int64) api.Job {
	j.Runtime = runtime
	return j
}

// ready are the records that have these jobs be ready.
func ready(l ...api.Job) []api.Record {
	var records []api.Record
	for _, j := range l {
		records = append(records, submitted(j), released(j.ID))
	}
	return records
}

// room are tenants with great quotas, and a node n with that capacity.
func room(capacity int64, tenants ...string) []api.Record {
	records := []api.Record{up("n", 1, capacity)}
	for _, name := range tenants {
		records = append(records, joined(name, top, top, top, top))
	}
	return records
}

// rounds asks for what a round of the core makes of its state: of a tick that loses nobody.
func rounds(t *testing.T, c *core.Core, records, told string) {
	t.Helper()
	if records != "" {
		records = "; " + records
	}
	steps(t, c, step{"tick", "ok", "ticked" + records, told})
}

// P21.2: the greatest priority comes first, whoever's it is and however much they have; of one tenant's the least number.
func TestRoundPriority(t *testing.T) {
	c := played(t, append(room(10, "a", "b"), ready(of("a", 5, 3, 1), of("a", 5, 2, 1), of("b", 4, 1, 1), of("a", 6, 9, 1), of("a", 0, 7, 1), of("b", 7, 8, 1))...)...)
	rounds(t, c, "placed 8 n; placed 9 n; placed 2 n; placed 3 n; placed 1 n; placed 7 n",
		"launch n 1 8 1 0; launch n 1 9 1 0; launch n 1 2 1 0; launch n 1 3 1 0; launch n 1 1 1 0; launch n 1 7 1 0")
	rounds(t, c, "", "")
}

// P21.2: of like priorities it is the turn of who has least of the whole, of like shares of the lesser name; what is placed counts from then on.
func TestRoundTenants(t *testing.T) {
	c := played(t, append(room(20, "c", "a", "b"), ready(
		of("c", 5, 1, 1), of("c", 5, 2, 1), of("c", 5, 3, 1), of("b", 5, 4, 2), of("b", 5, 5, 2), of("a", 5, 6, 3), of("a", 5, 7, 3),
	)...)...)
	// Shares: c 1, b 2, a 3 behind the first three; then c 2, of like shares b first: b 4, c 3.
	rounds(t, c, "placed 6 n; placed 4 n; placed 1 n; placed 2 n; placed 5 n; placed 3 n; placed 7 n",
		"launch n 1 6 1 0; launch n 1 4 1 0; launch n 1 1 1 0; launch n 1 2 1 0; launch n 1 5 1 0; launch n 1 3 1 0; launch n 1 7 1 0")
}

// P21.2: what tenants have is weighed.
func TestRoundWeights(t *testing.T) {
	var l []api.Record
	for name, weight := range map[string]int64{"a": 1, "b": 2, "c": 3} {
		l = append(l, api.Joined{Tenant: api.Tenant{Name: name, Weight: weight, Quota: vec(99)}})
	}
	l = append(l, up("n", 1, 99))
	for i := range int64(4) {
		l = append(l, ready(of("a", 5, 10+i, 6), of("b", 5, 20+i, 6), of("c", 5, 30+i, 6))...)
	}
	// Behind the first turns a has 6, b 3, c 2; c 4, b 3; b 6, c 4; c 6; of like ones a first.
	rounds(t, played(t, l...), "placed 10 n; placed 20 n; placed 30 n; placed 31 n; placed 21 n; placed 32 n; placed 11 n; placed 22 n; placed 33 n; placed 23 n; placed 12 n; placed 13 n",
		"launch n 1 10 1 0; launch n 1 20 1 0; launch n 1 30 1 0; launch n 1 31 1 0; launch n 1 21 1 0; launch n 1 32 1 0; launch n 1 11 1 0; launch n 1 22 1 0; launch n 1 33 1 0; launch n 1 23 1 0; launch n 1 12 1 0; launch n 1 13 1 0")
}

// P21.2: the whole is that of the live nodes, of each resource; a lost node's isn't there.
func TestRoundWhole(t *testing.T) {
	one := func(tenant string, id int64, v api.Vector) api.Job {
		return api.Job{ID: id, Tenant: tenant, Priority: 5, Runtime: 1, Tasks: []api.Vector{v}}
	}
	for lost, want := range []string{"placed 4 m; placed 3 m", "placed 3 m; placed 4 m"} {
		l := []api.Record{joined("a", 9, 9), joined("b", 9, 9), up("m", 1, 10, 3), up("n", 1, 0, 100)}
		l = append(l, ready(one("a", 1, vec(1)), one("b", 2, vec(0, 1)), one("a", 3, vec(1)), one("b", 4, vec(0, 1)))...)
		l = append(l, placed(1, "m"), placed(2, "m"))
		if lost == 1 {
			l = append(l, down("n"))
		}
		c := played(t, l...)
		if _, records, _ := c.Step(parsed(t, "tick")); briefs(records) != "ticked; "+want {
			t.Fatalf("the records are %q, not %q", briefs(records), want)
		}
	}
}

// P21.2: of a resource of which there would be more than MaxAmount the whole is that; the others are as they are.
func TestRoundWholeAtMost(t *testing.T) {
	one := func(tenant string, id int64, v api.Vector) api.Job {
		return api.Job{ID: id, Tenant: tenant, Priority: 5, Runtime: 1, Tasks: []api.Vector{v}}
	}
	l := []api.Record{joined("a", top, top), joined("b", top, top), up("m", 1, top, 8), up("n", 1, top-1, 0), up("o", 1, top, 0)}
	// a has a half of MaxAmount, which would be a sixth of all; b has three of eight.
	l = append(l, ready(one("a", 1, vec(top/2)), one("b", 2, vec(0, 3)), one("a", 3, vec(1)), one("b", 4, vec(0, 1)))...)
	c := played(t, append(l, placed(1, "o"), placed(2, "m"))...)
	rounds(t, c, "placed 4 m; placed 3 m", "launch m 1 4 1 0; launch m 1 3 1 0")
}

// P21.2: what the quota has no room for is passed over, and nobody waits for it: its tenant's next one has its turn.
func TestRoundQuota(t *testing.T) {
	l := append(room(20, "b"), joined("a", 5))
	l = append(l, ready(of("a", 9, 1, 3), of("a", 9, 2, 3), of("a", 8, 3, 2, 1), of("a", 7, 4, 2), of("a", 6, 5, 1), of("b", 5, 6, 15), of("b", 4, 7, 1))...)
	c := played(t, l...)
	rounds(t, c, "placed 1 n; placed 4 n; placed 6 n", "launch n 1 1 1 0; launch n 1 4 1 0; launch n 1 6 1 0")
	jobs(t, c, "job 1 running 1 at n", "job 2 ready 0", "job 3 ready 0", "job 4 running 1 at n", "job 5 ready 0", "job 6 running 1 at n", "job 7 ready 0")
	steps(t, c, step{"done n 1 1 1", "ok", "part 1 n; succeeded 1; placed 2 n", "launch n 1 2 1 0"})
	steps(t, c, step{"done n 1 2 1", "ok", "part 2 n; succeeded 2; placed 3 n n", "launch n 1 3 1 0,1"})
}

// P21.2: tasks whose sum isn't formed are within no quota.
func TestRoundSumTooGreat(t *testing.T) {
	l := []api.Record{joined("a", top), joined("b", top), up("m", 1, top), up("n", 1, top), up("o", 1, top)}
	l = append(l, ready(of("a", 9, 1, top, 1), of("a", 8, 2, 1), of("a", 7, 3, top), of("a", 6, 4, top-1), of("b", 5, 5, top), of("b", 4, 6, 1))...)
	c := played(t, l...)
	rounds(t, c, "placed 2 m; placed 4 m; placed 5 n", "launch m 1 2 1 0; launch m 1 4 1 0; launch n 1 5 1 0")
	rounds(t, c, "", "")
}

// P21.2: who finds no room waits at the head; behind it others go ahead, if it starts no later for that.
func TestRoundHead(t *testing.T) {
	l := append(room(10, "a"), ready(lasting(of("a", 5, 1, 6), 20), lasting(of("a", 5, 2, 2), 8))...)
	l = append(l, api.Ticked{}, api.Ticked{}, placed(1, "n"), placed(2, "n"))
	// At 3 it is that 2 are free; 4 at 10; all at 22.
	l = append(l, ready(lasting(of("a", 5, 9, 9), 5), lasting(of("a", 5, 10, 1), 20), lasting(of("a", 5, 11, 1), 19), lasting(of("a", 5, 12, 2), 1), lasting(of("a", 4, 13, 1), 21), lasting(of("a", 3, 14, 0), 1000), lasting(of("a", 3, 15, 2), 19))...)
	c := played(t, l...)
	// 9 starts at 22, when 1 ends. 10 would end at 23, and leave 9 behind it; then nobody may take more.
	rounds(t, c, "placed 10 n; placed 11 n; placed 14 n", "launch n 1 10 1 0; launch n 1 11 1 0; launch n 1 14 1 0")
	steps(t, c,
		step{"query 9", "job 9 ready 0", "", ""},
		// As 9 starts at 22 still, 12 may go ahead till then, and 13 not.
		step{"done n 1 2 1", "ok", "part 2 n; succeeded 2; placed 12 n", "launch n 1 12 1 0"},
		step{"done n 1 11 1", "ok", "part 11 n; succeeded 11", ""},
		step{"done n 1 12 1", "ok", "part 12 n; succeeded 12; placed 15 n", "launch n 1 15 1 0"},
	)
}

// P21.2: behind one who waits at the head nobody is evicted, and the second one who finds no room waits at no head.
func TestRoundOneHead(t *testing.T) {
	l := append(room(10, "a", "b"), ready(lasting(of("a", 1, 1, 6), 9), lasting(of("b", 7, 2, 3), 5))...)
	l = append(l, placed(1, "n"), placed(2, "n"))
	// 3 finds no room, as 2 doesn't go for it; 4 would find room, if 1 went. 5 would make 4 wait, but not 3.
	l = append(l, ready(lasting(of("a", 7, 3, 8), 9), lasting(of("a", 6, 4, 7), 9), lasting(of("a", 5, 5, 1), 9))...)
	rounds(t, played(t, l...), "placed 5 n", "launch n 1 5 1 0")
}

// P21.2: a head that has no start holds nobody up.
func TestRoundHeadWithoutStart(t *testing.T) {
	l := append(room(10, "a"), ready(of("a", 9, 1, 11), of("a", 8, 2, 11), lasting(of("a", 1, 3, 4), 1000), lasting(of("a", 1, 4, 6), 1000), of("a", 0, 5, 1))...)
	c := played(t, l...)
	rounds(t, c, "placed 3 n; placed 4 n", "launch n 1 3 1 0; launch n 1 4 1 0")
	// In the next round nobody goes for it, as all of them would not do.
	rounds(t, c, "", "")
	steps(t, c, step{"up m 1 11:0:0:0", "ok", "up m 1; placed 1 m", "launch m 1 1 1 0"})
}

// P21.2: who has run beyond their runtime is taken to end at the next tick; who would run beyond MaxNow, at it.
func TestRoundEnds(t *testing.T) {
	running := func(start, runtime int64, head, other api.Job) *core.Core {
		c := core.Of(core.State{
			Now:     late - 100,
			Tenants: []api.Tenant{tenant("a", top)},
			Nodes:   []api.Node{{Name: "n", Epoch: 1, Capacity: vec(10), Seen: late - 100, Live: true}},
			Jobs:    []api.Job{{ID: 1, Tenant: "a", Priority: 99, Runtime: runtime, Tasks: []api.Vector{vec(5)}, State: api.Running, Attempt: 1, Nodes: []string{"n"}, Start: start}},
		})
		for _, r := range ready(head, other) {
			if _, e := c.Play(r); e != api.OK {
				t.Fatalf("%v: %d", r, e)
			}
		}
		return c
	}
	head := of("a", 5, 2, 6)
	for _, x := range []struct {
		start, runtime, other int64
		admitted              bool
	}{
		{late - 200, 50, 1, true},
		{late - 200, 50, 2, false},
		{late - 150, 51, 1, true},
		{late - 150, 51, 2, false},
		{late - 150, 53, 2, true},
		{late - 150, 53, 3, false},
		{late - 150, 150, 99, true},
		{late - 150, 150, 100, false},
		{late - 150, 1000, 99, true},
		{late - 150, 1000, 100, false},
	} {
		c := running(x.start, x.runtime, head, lasting(of("a", 5, 3, 5), x.other))
		_, records, _ := c.Step(parsed(t, "tick"))
		want := "ticked"
		if x.admitted {
			want += "; placed 3 n"
		}
		if got := briefs(records); got != want {
			t.Fatalf("%+v: the records are %q, not %q", x, got, want)
		}
	}
}

// P21.2: those of lesser priority go for who finds no room, as few as will do, in their turns; they have their turns again in the same round.
func TestRoundEvicts(t *testing.T) {
	l := append(room(10, "a", "b"), ready(of("a", 3, 1, 2), of("b", 3, 2, 2), of("a", 2, 3, 2), of("b", 4, 4, 1))...)
	l = append(l, placed(1, "n"), api.Ticked{}, placed(2, "n"), placed(3, "n"), placed(4, "n"))
	const third, second, first = "kill n 1 3 1; ", "kill n 1 2 1; ", "kill n 1 1 1; "
	for _, x := range []struct {
		amount        int64
		records, told string
	}{
		{3, "placed 9 n", ""},
		{4, "evicted 3; placed 9 n", third},
		{5, "evicted 3; placed 9 n", third},
		{6, "evicted 3; evicted 2; placed 9 n", third + second},
		{7, "evicted 3; evicted 2; placed 9 n", third + second},
		{8, "evicted 3; evicted 2; evicted 1; placed 9 n", third + second + first},
		{9, "evicted 3; evicted 2; evicted 1; placed 9 n", third + second + first},
	} {
		rounds(t, played(t, append(l, ready(of("a", 4, 9, x.amount))...)...), x.records, x.told+"launch n 1 9 1 0")
	}
	// All three would not do.
	rounds(t, played(t, append(l, ready(of("a", 4, 9, 10))...)...), "", "")
	// Of two gangs that have to go the one that finds room again has it.
	l = append(room(10, "a"), ready(of("a", 1, 1, 1, 3), of("a", 2, 2, 3, 3))...)
	l = append(l, placed(1, "n", "n"), placed(2, "n", "n"))
	rounds(t, played(t, append(l, ready(of("a", 4, 9, 6))...)...), "evicted 1; evicted 2; placed 9 n; placed 1 n n",
		"kill n 1 1 1; kill n 1 2 1; launch n 1 9 1 0; launch n 1 1 2 0,1")
}

// P21.2: of like priorities the one that started last goes first, be its number the least.
func TestRoundEvictsLatest(t *testing.T) {
	l := append(room(4, "a"), ready(of("a", 1, 1, 2), of("a", 1, 2, 2))...)
	l = append(l, placed(2, "n"), api.Ticked{}, placed(1, "n"))
	rounds(t, played(t, append(l, ready(of("a", 5, 3, 2))...)...), "evicted 1; placed 3 n", "kill n 1 1 1; launch n 1 3 1 0")
}

// P21.2: nobody goes whose priority isn't below.
func TestRoundEvictsNone(t *testing.T) {
	l := append(room(4, "a", "b"), ready(of("a", 3, 1, 2), of("b", 4, 2, 2))...)
	l = append(l, placed(1, "n"), placed(2, "n"))
	for priority := range int64(4) {
		c := played(t, append(l, ready(of("a", priority, 9, 2))...)...)
		rounds(t, c, "", "")
	}
	rounds(t, played(t, append(l, ready(of("a", 4, 9, 2))...)...), "evicted 1; placed 9 n", "kill n 1 1 1; launch n 1 9 1 0")
	rounds(t, played(t, append(l, ready(of("a", 4, 9, 3))...)...), "", "")
	rounds(t, played(t, append(l, ready(of("a", 5, 9, 3))...)...), "evicted 1; evicted 2; placed 9 n", "kill n 1 1 1; kill n 1 2 1; launch n 1 9 1 0")
}

// P21.2: those passed over for their quota come again behind an eviction, in the order of all; those who waited for nothing else don't.
func TestRoundComesAgain(t *testing.T) {
	l := append(room(4, "b"), joined("a", 4))
	l = append(l, ready(of("a", 1, 1, 4))...)
	l = append(l, placed(1, "n"))
	// 2 and 3 are beyond a's quota till 1 is gone for 4; then 2 comes first, though 5 had its turn to come.
	l = append(l, ready(of("a", 9, 2, 1), of("a", 8, 3, 1), of("b", 5, 4, 1), of("b", 4, 5, 2))...)
	rounds(t, played(t, l...), "evicted 1; placed 4 n; placed 2 n; placed 3 n", "kill n 1 1 1; launch n 1 4 1 0; launch n 1 2 1 0; launch n 1 3 1 0")
}

// P21.2: one that was passed over for its quota and comes again may evict in its turn, and be passed over anew.
func TestRoundComesAgainAndEvicts(t *testing.T) {
	l := append(room(6, "b"), joined("a", 4))
	l = append(l, ready(of("a", 1, 1, 2), of("a", 2, 2, 2), of("b", 3, 3, 2))...)
	l = append(l, placed(1, "n"), placed(2, "n"), placed(3, "n"))
	// For 5 goes 1; then 4 is within the quota, and for it goes 2; then there is room for 6 in the quota, and on the node, if 3 goes.
	l = append(l, ready(of("a", 9, 4, 2), of("b", 8, 5, 2), of("a", 7, 6, 2), of("a", 6, 7, 2))...)
	rounds(t, played(t, l...), "evicted 1; placed 5 n; evicted 2; placed 4 n; evicted 3; placed 6 n",
		"kill n 1 1 1; launch n 1 5 1 0; kill n 1 2 1; launch n 1 4 1 0; kill n 1 3 1; launch n 1 6 1 0")
}

// P21.2: who came again and was placed has no third turn behind the next eviction, though there were quota for it, and one who might go.
func TestRoundComesAgainOnce(t *testing.T) {
	l := append(room(6, "b"), joined("a", 4))
	l = append(l, ready(of("a", 1, 1, 4), of("b", 2, 2, 1), of("b", 3, 3, 1))...)
	l = append(l, placed(1, "n"), placed(2, "n"), placed(3, "n"))
	l = append(l, ready(of("a", 9, 4, 1), of("b", 8, 5, 4))...)
	rounds(t, played(t, l...), "evicted 1; placed 5 n; evicted 2; placed 4 n",
		"kill n 1 1 1; launch n 1 5 1 0; kill n 1 2 1; launch n 1 4 1 0")
}

// P21.2: one who isn't within the quota is passed over even where nobody waits at the head, and evicts nobody, its own tenant's neither.
func TestRoundQuotaComesFirst(t *testing.T) {
	l := append(room(4), joined("a", 4))
	l = append(l, ready(of("a", 1, 1, 4))...)
	l = append(l, placed(1, "n"))
	l = append(l, ready(of("a", 9, 2, 1))...)
	c := played(t, l...)
	rounds(t, c, "", "")
	steps(t, c, step{"cancel 1", "ok", "cancelled 1; placed 2 n", "kill n 1 1 1; launch n 1 2 1 0"})
}

// P21.2: lost nodes are no slots; a gang finds room on several, in their order.
func TestRoundSlots(t *testing.T) {
	l := append(room(3, "a"), up("a", 1, 9), up("c", 2, 2), up("b", 3, 1), down("a"))
	rounds(t, played(t, append(l, ready(of("a", 5, 1, 1, 1, 2, 2))...)...), "placed 1 b n c n", "launch b 3 1 1 0; launch c 2 1 1 2; launch n 1 1 1 1,3")
}

// P21.2: there may be MaxTenants, each of whom has its turn, and MaxNodes, all of which are filled.
func TestRoundMost(t *testing.T) {
	var l []api.Record
	for i := range api.MaxNodes {
		l = append(l, up(fmt.Sprintf("n%02d", i), 1, 6))
	}
	id := int64(0)
	for i := range api.MaxTenants {
		l = append(l, joined(fmt.Sprint("t", i), 99))
	}
	for range 2 {
		for i := range api.MaxTenants {
			id++
			l = append(l, ready(of(fmt.Sprint("t", i), 5, id, 1, 1, 1, 1, 1, 1))...)
		}
	}
	c := played(t, l...)
	_, records, told := c.Step(parsed(t, "tick"))
	if len(records) != 1+api.MaxNodes || len(told) != api.MaxNodes {
		t.Fatalf("the records are %q", briefs(records))
	}
	for i, r := range records[1:] {
		node := fmt.Sprintf("n%02d", i)
		want := fmt.Sprint("placed ", i+1)
		for range api.MaxTasks {
			want += " " + node
		}
		if got := brief(r); got != want {
			t.Fatalf("record %d is %q, not %q", i+1, got, want)
		}
		if o := told[i]; o.Node != node || o.Job != int64(i+1) || len(o.Tasks) != api.MaxTasks {
			t.Fatalf("order %d is %+v", i, o)
		}
	}
}
