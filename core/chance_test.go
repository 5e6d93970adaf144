package core_test

import (
	"math/rand"
	"slices"
	"strconv"
	"testing"

	"drover/api"
	"drover/core"
	"drover/order"
)

// world is what chances are taken from.
type world struct {
	*rand.Rand
	tenants, nodes int   // how many names there are
	jobs           int64 // how many numbers
	most           int64 // of an amount
	met            map[string]int
}

func (w *world) tenant() string { return string(rune('a' + w.Intn(w.tenants))) }

func (w *world) node() string { return "n" + strconv.Itoa(w.Intn(w.nodes)) }

func (w *world) id() int64 { return 1 + w.Int63n(w.jobs) }

// vector has most of its amounts in the first place, and now and then one that is too great.
func (w *world) vector(most int64) api.Vector {
	v := vec(w.Int63n(most+1), w.Int63n(most+1)/2*w.Int63n(2))
	if w.Intn(300) == 0 {
		v[w.Intn(4)] = top - w.Int63n(3)
	}
	return v
}

func (w *world) newTenant() api.Tenant {
	return api.Tenant{Name: w.tenant(), Weight: 1 + w.Int63n(3), Quota: plus(w.vector(w.most*6), vec(w.most, w.most/2))}
}

// newJob is mostly one that isn't there yet, of a tenant that is there.
func (w *world) newJob(s core.State) api.Job {
	j := api.Job{ID: w.id(), Tenant: w.tenant(), Priority: w.Int63n(8), Runtime: 1 + w.Int63n(20)}
	for range 20 * w.Intn(5) {
		if slices.ContainsFunc(s.Jobs, func(other api.Job) bool { return other.ID == j.ID }) {
			j.ID = w.id()
		}
	}
	if t, ok := some(w, s.Tenants); ok && w.Intn(10) > 0 {
		j.Tenant = t.Name
	}
	if w.Intn(6) == 0 {
		for range 1 + w.Intn(3) {
			if p := w.id(); p != j.ID {
				j.Parents = append(j.Parents, p)
			}
		}
		slices.Sort(j.Parents)
		j.Parents = slices.Compact(j.Parents)
	}
	for range 1 + w.Intn(1+w.Intn(4)) {
		j.Tasks = append(j.Tasks, w.vector(w.most))
	}
	return j
}

// some is one of a list.
func some[T any](w *world, l []T) (T, bool) {
	if len(l) == 0 {
		var none T
		return none, false
	}
	return l[w.Intn(len(l))], true
}

// report is what a worker might say: mostly of a job that runs, at times of what is past or isn't there.
func (w *world) report(s core.State, kind int) order.Command {
	x := order.Command{Kind: kind, Node: w.node(), Epoch: 1 + w.Int63n(3), Number: w.id(), Attempt: 1 + w.Int63n(2)}
	running := slices.DeleteFunc(slices.Clone(s.Jobs), func(j api.Job) bool { return j.State != api.Running })
	if j, ok := some(w, running); ok && w.Intn(8) > 0 {
		x.Number, x.Attempt = j.ID, j.Attempt
		x.Node, _ = some(w, j.Nodes)
	}
	for _, n := range s.Nodes {
		if n.Name == x.Node && w.Intn(12) > 0 {
			x.Epoch = n.Epoch
		}
	}
	return x
}

// command is a command by chance, that means something more often than not.
func (w *world) command(s core.State) order.Command {
	switch w.Intn(40) {
	case 0:
		return order.Command{Kind: 1, Tenant: w.newTenant()}
	case 1, 2:
		return order.Command{Kind: 3, Number: w.id()}
	case 3:
		return order.Command{Kind: 4, Number: w.id()}
	case 4, 5:
		x := order.Command{Kind: 5, Node: w.node(), Epoch: 1, Vector: w.vector(w.most * 3)}
		for _, n := range s.Nodes {
			if n.Name == x.Node {
				x.Epoch = n.Epoch + w.Int63n(6)/2
			}
		}
		return x
	case 6, 7, 8, 9:
		x := w.report(s, 6)
		x.Number, x.Attempt = 0, 0
		return x
	case 10, 11, 12, 13, 14, 15:
		return w.report(s, 7)
	case 16:
		return w.report(s, 8)
	case 17, 18, 19, 20:
		return order.Command{Kind: 9}
	case 21:
		return order.Command{Kind: 10}
	case 22:
		// Mostly one that isn't formed.
		return order.Command{Kind: w.Intn(13) - 1, Number: w.Int63n(3)}
	}
	return order.Command{Kind: 2, Job: w.newJob(s)}
}

// record is a record by chance, of which many are possible.
func (w *world) record(s core.State) api.Record {
	ids := map[int][]int64{}
	for _, j := range s.Jobs {
		ids[j.State] = append(ids[j.State], j.ID)
	}
	of := func(state int) int64 {
		if id, ok := some(w, ids[state]); ok && w.Intn(5) > 0 {
			return id
		}
		return w.id()
	}
	switch w.Intn(16) {
	case 0:
		return api.Joined{Tenant: w.newTenant()}
	case 1:
		return api.Up{Node: w.node(), Epoch: 1 + w.Int63n(5), Capacity: w.vector(w.most * 3)}
	case 2:
		return api.Beat{Node: w.node()}
	case 3:
		return api.Down{Node: w.node()}
	case 4, 5:
		return api.Submitted{Job: w.newJob(s)}
	case 6:
		return api.Released{Job: of(api.Waiting)}
	case 7, 8, 9, 10:
		return w.placing(s, of(api.Ready))
	case 11:
		return api.Evicted{Job: of(api.Running)}
	case 12, 13:
		x := w.report(s, 7)
		return api.Part{Job: x.Number, Node: x.Node}
	case 14:
		return api.Ended{Job: of(w.Intn(4)), State: 3 + w.Intn(4)}
	}
	return api.Ticked{}
}

// placing is a Placed of that job, on nodes by chance.
func (w *world) placing(s core.State, id int64) api.Record {
	r := api.Placed{Job: id, Nodes: []string{w.node()}}
	for _, j := range s.Jobs {
		for len(r.Nodes) < len(j.Tasks) && j.ID == id {
			r.Nodes = append(r.Nodes, []string{w.node(), r.Nodes[0]}[w.Intn(2)])
		}
	}
	return r
}

// commands has a core and a model take a command, and holds the one against the other, against Ask, and against another core that plays the records.
func (w *world) commands(t *testing.T, c, twin *core.Core, m *model) {
	t.Helper()
	was := c.State()
	x := w.command(was)
	foretold, foreseen := c.Ask(x)
	if now := whole(c.State()); now != whole(was) {
		t.Fatalf("%+v: Ask has made the state\n%s\nof\n%+v", x, now, was)
	}
	reply, records, told := c.Step(x)
	wantReply, wantRecords, wantTold := m.Step(x)
	got, want := whole([]any{reply, records, told}), whole([]any{wantReply, wantRecords, wantTold})
	if got != want {
		t.Fatalf("%+v in\n%+v\nanswers\n%s, not\n%s", x, was, got, want)
	}
	if whole([]any{foretold, foreseen}) != whole([]any{reply, records}) {
		t.Fatalf("%+v: Ask answers %q, %v, and Step %q, %v", x, foretold, foreseen, reply, records)
	}
	is(t, c, m.state())
	w.again(t, twin, records, told)
	is(t, twin, m.state())
	if reply[len(reply)-1] == "ok" && x.Kind != 6 && x.Kind != 10 {
		noneForgotten(t, m.state())
	}
	goesOn(t, was, m.state())
	w.met[strconv.Itoa(x.Kind)+reply[len(reply)-1][:min(2, len(reply[len(reply)-1]))]]++
	for _, r := range records {
		w.met[whole(r.Kind())]++
	}
}

// again has another core play the records, and asks that workers are told the same.
func (w *world) again(t *testing.T, twin *core.Core, records []api.Record, told []api.Order) {
	t.Helper()
	var all []api.Order
	for _, r := range records {
		was := twin.State()
		l, e := twin.Play(r)
		if e != api.OK {
			t.Fatalf("%v isn't played again: %d", r, e)
		}
		all = append(all, l...)
		sound(t, twin.State())
		goesOn(t, was, twin.State())
	}
	if whole(all) != whole(told) {
		t.Fatalf("played again workers are told %v, and not %v", all, told)
	}
}

// records has a core and a model play a record.
func (w *world) records(t *testing.T, c, twin *core.Core, m *model) {
	t.Helper()
	was := c.State()
	r := w.record(was)
	told, e := c.Play(r)
	wantTold, want := m.Play(r)
	if whole(told) != whole(wantTold) || e != want {
		t.Fatalf("%+v in\n%+v\nanswers %v, %d, not %v, %d", r, was, told, e, wantTold, want)
	}
	is(t, c, m.state())
	sound(t, m.state())
	goesOn(t, was, m.state())
	twin.Play(r)
	w.met["played "+whole(r.Kind())+" "+strconv.Itoa(int(e))]++
}

// P21.1 to P21.4: commands by chance are held against the model, in worlds of several sizes.
func TestChance(t *testing.T) {
	met := map[string]int{}
	for seed := range 30 {
		t.Run(strconv.Itoa(seed), func(t *testing.T) {
			w := &world{rand.New(rand.NewSource(int64(2100 + seed))), 1 + seed%4, 1 + seed%5, 10 + int64(seed%3)*45, 2 + int64(seed%4), met}
			if seed%10 == 9 {
				w.tenants, w.nodes = 10, 15
			}
			c, twin, m := core.New(), core.New(), newModel()
			m.met = met
			for range 300 {
				w.commands(t, c, twin, m)
			}
		})
	}
	for k, least := range map[string]int{"1er": 50, "2er": 50, "3er": 50, "4er": 50, "5er": 50, "6er": 50, "7er": 50, "8er": 50, "turn 0": 500, "turn -1": 80, "turn 2": 500, "turn 3": 500, "turn 4": 500, "admitted": 200, "again": 20} {
		if met[k] < least {
			t.Errorf("of %s there were %d only", k, met[k])
		}
	}
	for k := range 11 {
		if met[strconv.Itoa(k+1)] < 30 {
			t.Errorf("of the record %d there were %d only", k+1, met[strconv.Itoa(k+1)])
		}
	}
}

// P21.1, P21.3: records by chance are held against the model.
func TestChanceRecords(t *testing.T) {
	met := map[string]int{}
	for seed := range 40 {
		t.Run(strconv.Itoa(seed), func(t *testing.T) {
			w := &world{rand.New(rand.NewSource(int64(2200 + seed))), 1 + seed%3, 1 + seed%4, 5 + int64(seed%3)*5, 2, met}
			if seed%8 == 7 {
				w.tenants, w.nodes = 10, 15
			}
			c, twin, m := core.New(), core.New(), newModel()
			for range 500 {
				w.records(t, c, twin, m)
			}
		})
	}
	for k := range 11 {
		for _, e := range []string{" 0", " 10"} {
			if met["played "+strconv.Itoa(k+1)+e] < 50 && (k < 10 || e == " 0") {
				t.Errorf("of the kind %d there were %v", k+1, met)
			}
		}
	}
}

// P21.1 to P21.4: commands and records in turns: so those states are reached too that commands alone don't reach. At times the core is another one in the same state.
func TestChanceBoth(t *testing.T) {
	for seed := range 60 {
		t.Run(strconv.Itoa(seed), func(t *testing.T) {
			w := &world{rand.New(rand.NewSource(int64(2300 + seed))), 1 + seed%4, 1 + seed%5, 6 + int64(seed%3)*10, 2 + int64(seed%4), map[string]int{}}
			c, twin, m := core.New(), core.New(), newModel()
			if seed%3 == 0 {
				// The last ticks of all.
				c, twin, m.now = core.Of(core.State{Now: late - 60}), core.Of(core.State{Now: late - 60}), late-60
			}
			for i := range 300 {
				if w.Intn(4) == 0 {
					w.commands(t, c, twin, m)
				} else {
					w.records(t, c, twin, m)
				}
				if i%25 == 0 {
					c = core.Of(c.State())
				}
			}
		})
	}
}
