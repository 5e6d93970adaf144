package core_test

import (
	"fmt"
	"slices"
	"strconv"
	"strings"
	"testing"

	"drover/api"
	"drover/core"
	"drover/order"
)

const (
	top  = api.MaxAmount
	late = api.MaxNow
)

// states are the words of the states, at their numbers.
var states = []string{"none", "waiting", "ready", "running", "succeeded", "failed", "cancelled"}

// parsed is the command that a line says.
func parsed(t *testing.T, line string) order.Command {
	t.Helper()
	x, e := order.Parse(line)
	if e != api.OK {
		t.Fatalf("%q is no command: %d", line, e)
	}
	return x
}

// brief tells of a record what it is and what it is about.
func brief(r api.Record) string {
	switch x := r.(type) {
	case api.Joined:
		return "joined " + x.Tenant.Name
	case api.Up:
		return "up " + x.Node + " " + strconv.FormatInt(x.Epoch, 10)
	case api.Beat:
		return "beat " + x.Node
	case api.Down:
		return "down " + x.Node
	case api.Submitted:
		return fmt.Sprint("submitted ", x.Job.ID)
	case api.Released:
		return fmt.Sprint("released ", x.Job)
	case api.Placed:
		return fmt.Sprint("placed ", x.Job, " ", strings.Join(x.Nodes, " "))
	case api.Evicted:
		return fmt.Sprint("evicted ", x.Job)
	case api.Part:
		return fmt.Sprint("part ", x.Job, " ", x.Node)
	case api.Ended:
		return fmt.Sprint(states[x.State], " ", x.Job)
	case api.Ticked:
		return "ticked"
	}
	return fmt.Sprintf("none: %v", r)
}

// briefs are records as a text.
func briefs(l []api.Record) string {
	var texts []string
	for _, r := range l {
		texts = append(texts, brief(r))
	}
	return strings.Join(texts, "; ")
}

// orders are what workers are told as a text.
func orders(l []api.Order) string {
	var texts []string
	for _, o := range l {
		texts = append(texts, order.Order(o))
	}
	return strings.Join(texts, "; ")
}

// whole is anything as a text, in which a list of no elements is the same be it nil or not.
func whole(x any) string {
	return fmt.Sprintf("%+v", x)
}

// step is a line, and what it brings about.
type step struct {
	line, reply, records, orders string
}

// steps asks that each line brings about what it should, and that Ask has told so, and nothing of it was done by that.
func steps(t *testing.T, c *core.Core, l ...step) {
	t.Helper()
	for _, s := range l {
		x := parsed(t, s.line)
		was := whole(c.State())
		foretold, foreseen := c.Ask(x)
		if now := whole(c.State()); now != was {
			t.Fatalf("%s: Ask has made the state %s, which was %s", s.line, now, was)
		}
		reply, records, told := c.Step(x)
		if whole(foretold) != whole(reply) || whole(foreseen) != whole(records) {
			t.Fatalf("%s: Ask answers %q, %v, and Step %q, %v", s.line, foretold, foreseen, reply, records)
		}
		if got := strings.Join(reply, "; "); got != s.reply {
			t.Fatalf("%s: the reply is %q, not %q", s.line, got, s.reply)
		}
		if got := briefs(records); got != s.records {
			t.Fatalf("%s: the records are %q, not %q", s.line, got, s.records)
		}
		if got := orders(told); got != s.orders {
			t.Fatalf("%s: workers are told %q, not %q", s.line, got, s.orders)
		}
		if now := whole(c.State()); records == nil && now != was {
			t.Fatalf("%s: there is no record, and the state is %s, which was %s", s.line, now, was)
		}
	}
}

// does has a core take these lines, whatever comes of them but a refusal.
func does(t *testing.T, c *core.Core, lines ...string) {
	t.Helper()
	for _, line := range lines {
		if reply, _, _ := c.Step(parsed(t, line)); reply[len(reply)-1] != "ok" {
			t.Fatalf("%s: the reply is %q", line, reply)
		}
	}
}

// doing is a core that has taken these lines.
func doing(t *testing.T, lines ...string) *core.Core {
	t.Helper()
	c := core.New()
	does(t, c, lines...)
	return c
}

// refuses asks that these lines are refused so, and change nothing.
func refuses(t *testing.T, c *core.Core, e api.Errno, lines ...string) {
	t.Helper()
	for _, line := range lines {
		steps(t, c, step{line, fmt.Sprint("error ", int(e)), "", ""})
	}
}

// is asks for a state.
func is(t *testing.T, c *core.Core, want core.State) {
	t.Helper()
	if got := whole(c.State()); got != whole(want) {
		t.Fatalf("the state is\n%s, not\n%s", got, whole(want))
	}
}

// jobs asks for the jobs' lines.
func jobs(t *testing.T, c *core.Core, want ...string) {
	t.Helper()
	var got []string
	for _, j := range c.State().Jobs {
		got = append(got, order.Job(j))
	}
	if !slices.Equal(got, want) {
		t.Fatalf("the jobs are %q, not %q", got, want)
	}
}

// plays has a core play records, and asks for what workers are told of them.
func plays(t *testing.T, c *core.Core, want string, l ...api.Record) {
	t.Helper()
	var all []api.Order
	for _, r := range l {
		told, e := c.Play(r)
		if e != api.OK {
			t.Fatalf("%s: error %d", brief(r), e)
		}
		all = append(all, told...)
	}
	if got := orders(all); got != want {
		t.Fatalf("%s: workers are told %q, not %q", briefs(l), got, want)
	}
}

// playsNot asks that each of the records is refused so, and changes nothing.
func playsNot(t *testing.T, c *core.Core, want api.Errno, l ...api.Record) {
	t.Helper()
	was := whole(c.State())
	for _, r := range l {
		if told, e := c.Play(r); len(told) != 0 || e != want {
			t.Fatalf("%v: workers are told %q, error %d, not %d", r, orders(told), e, want)
		}
		if now := whole(c.State()); now != was {
			t.Fatalf("%v was refused, and has made the state %s, which was %s", r, now, was)
		}
	}
}

// The tenants, nodes and jobs of the chapter's examples.
func exampleSteps() []step {
	return []step{
		{"tenant a 1 9:0:0:0", "ok", "joined a", ""},
		{"up n 1 4:0:0:0", "ok", "up n 1", ""},
		{"submit 1 a 5 10 - 3:0:0:0", "ok", "submitted 1; released 1; placed 1 n", "launch n 1 1 1 0"},
		{"submit 2 a 5 3 - 2:0:0:0", "ok", "submitted 2; released 2", ""},
		{"submit 3 a 5 3 - 1:0:0:0", "ok", "submitted 3; released 3; placed 3 n", "launch n 1 3 1 0"},
		{"submit 4 a 9 1 - 2:0:0:0", "ok", "submitted 4; released 4; evicted 3; evicted 1; placed 4 n; placed 3 n", "kill n 1 3 1; kill n 1 1 1; launch n 1 4 1 0; launch n 1 3 2 0"},
	}
}

func exampleState() core.State {
	return core.State{
		Tenants: []api.Tenant{{Name: "a", Weight: 1, Quota: api.Vector{9}}},
		Nodes:   []api.Node{{Name: "n", Epoch: 1, Capacity: api.Vector{4}, Live: true}},
		Jobs: []api.Job{
			{ID: 1, Tenant: "a", Priority: 5, Runtime: 10, Tasks: []api.Vector{{3}}, State: api.Ready, Attempt: 1},
			{ID: 2, Tenant: "a", Priority: 5, Runtime: 3, Tasks: []api.Vector{{2}}, State: api.Ready},
			{ID: 3, Tenant: "a", Priority: 5, Runtime: 3, Tasks: []api.Vector{{1}}, State: api.Running, Attempt: 2, Nodes: []string{"n"}},
			{ID: 4, Tenant: "a", Priority: 9, Runtime: 1, Tasks: []api.Vector{{2}}, State: api.Running, Attempt: 1, Nodes: []string{"n"}},
		},
	}
}

// P21.1, P21.2: the chapter's examples: reply, records, orders, and the state behind them.
func TestExamples(t *testing.T) {
	c := core.New()
	is(t, c, core.State{})
	steps(t, c, exampleSteps()...)
	is(t, c, exampleState())
	steps(t, c,
		step{"query 1", "job 1 ready 1", "", ""},
		step{"query 2", "job 2 ready 0", "", ""},
		step{"query 3", "job 3 running 2 at n", "", ""},
		step{"query 4", "job 4 running 1 at n", "", ""},
		step{"nodes", "node n 1 live 4:0:0:0; ok", "", ""},
	)
}

// P21.2: DOC.md's examples of the whole, by the machine alone.
func TestExamplesOfTheWhole(t *testing.T) {
	c := core.New()
	steps(t, c,
		step{"tenant a 1 9:0:0:0", "ok", "joined a", ""},
		step{"up n 1 4:0:0:0", "ok", "up n 1", ""},
		step{"submit 1 a 5 10 - 3:0:0:0", "ok", "submitted 1; released 1; placed 1 n", "launch n 1 1 1 0"},
		step{"query 1", "job 1 running 1 at n", "", ""},
		step{"submit 2 a 5 10 - 3:0:0:0", "ok", "submitted 2; released 2", ""},
		step{"query 2", "job 2 ready 0", "", ""},
		step{"submit 3 a 9 10 - 3:0:0:0", "ok", "submitted 3; released 3; evicted 1; placed 3 n", "kill n 1 1 1; launch n 1 3 1 0"},
		step{"query 1", "job 1 ready 1", "", ""},
		step{"done n 1 3 1", "ok", "part 3 n; succeeded 3; placed 1 n", "launch n 1 1 2 0"},
		step{"done n 1 1 1", "error 14", "", ""},
		step{"submit 4 a 1 1 1 1:0:0:0", "ok", "submitted 4", ""},
		step{"query 4", "job 4 waiting 0", "", ""},
		step{"cancel 1", "ok", "cancelled 1; failed 4; placed 2 n", "kill n 1 1 2; launch n 1 2 1 0"},
		step{"query 4", "job 4 failed 0", "", ""},
		step{"submit 5 a 1 1 6 1:0:0:0", "ok", "submitted 5", ""},
		step{"submit 6 a 1 1 5 1:0:0:0", "error 8", "", ""},
		step{"submit 7 a 1 1 - 10:0:0:0", "error 9", "", ""},
		step{"submit 7 b 1 1 - 1:0:0:0", "error 3", "", ""},
	)
	for range 9 {
		steps(t, c, step{"tick", "ok", "ticked", ""})
	}
	steps(t, c,
		step{"tick", "ok", "ticked; evicted 2; down n", "kill n 1 2 1"},
		step{"nodes", "node n 1 lost 4:0:0:0; ok", "", ""},
		step{"beat n 1", "error 14", "", ""},
		step{"up n 2 4:0:0:0", "ok", "up n 2; placed 2 n", "launch n 2 2 2 0"},
	)
}

// P21.1: of a state there is a core, whose state it is, and which does as the one that it was of.
func TestOf(t *testing.T) {
	for _, s := range []core.State{{}, {Now: 5}, {Now: late}, exampleState()} {
		is(t, core.Of(s), s)
	}
	c := core.New()
	for i, s := range exampleSteps() {
		c = core.Of(c.State())
		steps(t, c, s)
		d := core.Of(c.State())
		for _, s := range exampleSteps()[i+1:] {
			steps(t, d, s)
		}
		is(t, d, exampleState())
	}
	steps(t, core.Of(exampleState()), step{"done n 1 4 1", "ok", "part 4 n; succeeded 4; placed 1 n", "launch n 1 1 2 0"})
}

// P21.2: what isn't formed is refused, whatever the state is.
func TestNotFormed(t *testing.T) {
	for _, s := range []core.State{{}, exampleState(), {Now: late}} {
		c := core.Of(s)
		for _, x := range []order.Command{
			{}, {Kind: -1}, {Kind: 11}, {Kind: 3}, {Kind: 3, Number: 101}, {Kind: 9, Number: 1}, {Kind: 10, Node: "n"},
			{Kind: 1, Tenant: api.Tenant{Name: "b", Weight: 0}}, {Kind: 2, Job: api.Job{ID: 9, Tenant: "a", Runtime: 1}},
			{Kind: 5, Node: "n", Epoch: 0}, {Kind: 6, Node: "", Epoch: 1}, {Kind: 7, Node: "n", Epoch: 1, Number: 4}, {Kind: 8, Node: "n", Number: 4, Attempt: 1},
		} {
			reply, records, told := c.Step(x)
			if !slices.Equal(reply, []string{"error 4"}) || len(records) != 0 || len(told) != 0 {
				t.Fatalf("%+v: %q, %v, %v", x, reply, records, told)
			}
			reply, records = c.Ask(x)
			if !slices.Equal(reply, []string{"error 4"}) || len(records) != 0 {
				t.Fatalf("%+v: Ask answers %q, %v", x, reply, records)
			}
			is(t, c, s)
		}
	}
}
