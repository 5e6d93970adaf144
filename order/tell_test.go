package order_test

import (
	"math"
	"strconv"
	"strings"
	"testing"

	"drover/api"
	"drover/order"
	"drover/runes"
)

const (
	least    = "-9223372036854775808"
	greatest = "9223372036854775807"
)

func tellsJob(t *testing.T, want string, j api.Job) {
	t.Helper()
	if line := order.Job(j); line != want {
		t.Errorf("Job(%+v) = %q; want %q", j, line, want)
	}
}

func tellsNode(t *testing.T, want string, n api.Node) {
	t.Helper()
	if line := order.Node(n); line != want {
		t.Errorf("Node(%+v) = %q; want %q", n, line, want)
	}
}

func tellsOrder(t *testing.T, want string, o api.Order) {
	t.Helper()
	if line := order.Order(o); line != want {
		t.Errorf("Order(%+v) = %q; want %q", o, line, want)
	}
}

// odds are names that must be quoted, or look as if, with the words that say them.
func odds() map[string]string {
	return map[string]string{
		"": `""`, " ": `" "`, "a b": `"a b"`, `"`: `"\""`, `a"b`: `"a\"b"`, `\`: `\`, `a\b`: `a\b`, `a \ b`: `"a \\ b"`, `"\`: `"\"\\"`,
		"A": "A", "at": "at", "-": "-", "1": "1", "αβ": "αβ", "\xff": "\xff", "a\xff b": "\"a\xff b\"", "a\n": "a\n", " \n": "\" \n\"",
		strings.Repeat("x", 1000): strings.Repeat("x", 1000), strings.Repeat("x ", 1000): `"` + strings.Repeat("x ", 1000) + `"`,
	}
}

// P20.3: the chapter's example, and those of the document.
func TestTold(t *testing.T) {
	tellsJob(t, "job 3 running 1 at n1 n2", api.Job{ID: 3, State: api.Running, Attempt: 1, Nodes: []string{"n1", "n2"}})
	tellsJob(t, "job 1 running 1 at n", api.Job{ID: 1, State: api.Running, Attempt: 1, Nodes: []string{"n"}})
	tellsJob(t, "job 2 ready 0", api.Job{ID: 2, State: api.Ready})
	tellsJob(t, "job 4 waiting 0", api.Job{ID: 4, State: api.Waiting})
	tellsNode(t, "node n 1 lost 4:0:0:0", api.Node{Name: "n", Epoch: 1, Capacity: api.Vector{4}})
	tellsOrder(t, "launch n 1 1 1 0", api.Order{Node: "n", Epoch: 1, Job: 1, Attempt: 1, Launch: true, Tasks: []int64{0}})
	tellsOrder(t, "kill n 1 1 1", api.Order{Node: "n", Epoch: 1, Job: 1, Attempt: 1})
}

// P20.3: a job of each state, and of none that there is; where it is only one that runs tells, whatever its Nodes.
func TestStates(t *testing.T) {
	words := map[int]string{1: "waiting", 2: "ready", 3: "running", 4: "succeeded", 5: "failed", 6: "cancelled"}
	for _, state := range []int{math.MinInt, -3, -1, 0, 1, 2, 3, 4, 5, 6, 7, 8, 9, 100, 1<<32 + 3, math.MaxInt} {
		word, ok := words[state]
		if !ok {
			word = "unknown"
		}
		for _, nodes := range [][]string{nil, {}, {"a"}, {"b", "a"}, {"a", "a"}, {"c", "b", "a", "b", "c", "a"}} {
			want := "job 7 " + word + " 2"
			if state == 3 {
				want = strings.Join(append([]string{want, "at"}, nodes...), " ")
			}
			tellsJob(t, want, api.Job{ID: 7, State: state, Attempt: 2, Nodes: nodes})
			// What its line doesn't name doesn't show.
			tellsJob(t, want, api.Job{
				ID: 7, State: state, Attempt: 2, Nodes: nodes,
				Tenant: "t", Priority: 5, Runtime: 6, Parents: []int64{1}, Tasks: []api.Vector{{1}}, Start: 9, Done: []string{"a"},
			})
		}
	}
	tellsJob(t, "job 0 unknown 0", api.Job{})
	tellsJob(t, "job 3 running 1 at", api.Job{ID: 3, State: api.Running, Attempt: 1})
}

// P20.3: numbers of a job, below 0 and as great as there are any.
func TestJobNumbers(t *testing.T) {
	tellsJob(t, "job "+least+" failed "+greatest, api.Job{ID: math.MinInt64, State: api.Failed, Attempt: math.MaxInt64})
	tellsJob(t, "job "+greatest+" running "+least+" at n", api.Job{ID: math.MaxInt64, State: api.Running, Attempt: math.MinInt64, Nodes: []string{"n"}})
	for _, n := range []int64{-1, -10, 0, 9, 10, 100, 101, 1 << 32, 10000000000000} {
		tellsJob(t, "job "+strconv.FormatInt(n, 10)+" ready 1", api.Job{ID: n, State: api.Ready, Attempt: 1})
		tellsJob(t, "job 1 ready "+strconv.FormatInt(n, 10), api.Job{ID: 1, State: api.Ready, Attempt: n})
	}
}

// P20.3: nodes that are live and lost, of all numbers.
func TestNodes(t *testing.T) {
	tellsNode(t, "node a 2 live 1:2:3:4", api.Node{Name: "a", Epoch: 2, Capacity: api.Vector{1, 2, 3, 4}, Live: true})
	tellsNode(t, "node a 2 lost 1:2:3:4", api.Node{Name: "a", Epoch: 2, Capacity: api.Vector{1, 2, 3, 4}, Seen: 7})
	tellsNode(t, "node a 2 live 1:2:3:4", api.Node{Name: "a", Epoch: 2, Capacity: api.Vector{1, 2, 3, 4}, Live: true, Seen: 7})
	tellsNode(t, `node "" 0 lost 0:0:0:0`, api.Node{})
	tellsNode(t, "node ω -1 live -1:0:-20:10", api.Node{Name: "ω", Epoch: -1, Capacity: api.Vector{-1, 0, -20, 10}, Live: true})
	tellsNode(t, "node n "+greatest+" live "+least+":"+greatest+":1099511627776:0", api.Node{Name: "n", Epoch: math.MaxInt64, Capacity: api.Vector{math.MinInt64, math.MaxInt64, top}, Live: true})
	tellsNode(t, "node n "+least+" lost 0:0:0:-1", api.Node{Name: "n", Epoch: math.MinInt64, Capacity: api.Vector{0, 0, 0, -1}})
}

// P20.3: orders of launch and kill, with no task and with several; a kill's tasks are not told.
func TestOrders(t *testing.T) {
	for _, x := range []struct {
		list  string
		tasks []int64
	}{
		{"-", nil}, {"-", []int64{}}, {"0", []int64{0}}, {"5", []int64{5}}, {"0,2", []int64{0, 2}}, {"0,1,2,3,4,5", []int64{0, 1, 2, 3, 4, 5}},
		{"2,0,2", []int64{2, 0, 2}}, {"-1", []int64{-1}}, {"-1,-2,10", []int64{-1, -2, 10}}, {least + "," + greatest, []int64{math.MinInt64, math.MaxInt64}},
	} {
		tellsOrder(t, "launch n 1 2 3 "+x.list, api.Order{Node: "n", Epoch: 1, Job: 2, Attempt: 3, Launch: true, Tasks: x.tasks})
		tellsOrder(t, "kill n 1 2 3", api.Order{Node: "n", Epoch: 1, Job: 2, Attempt: 3, Tasks: x.tasks})
	}
	tellsOrder(t, `kill "" 0 0 0`, api.Order{})
	tellsOrder(t, `launch "" 0 0 0 -`, api.Order{Launch: true})
	tellsOrder(t, "kill n -1 -2 -3", api.Order{Node: "n", Epoch: -1, Job: -2, Attempt: -3})
	tellsOrder(t, "kill n "+least+" "+greatest+" "+least, api.Order{Node: "n", Epoch: math.MinInt64, Job: math.MaxInt64, Attempt: math.MinInt64})
	tellsOrder(t, "launch n "+greatest+" "+least+" "+greatest+" 1", api.Order{Node: "n", Epoch: math.MaxInt64, Job: math.MinInt64, Attempt: math.MaxInt64, Launch: true, Tasks: []int64{1}})
}

// P20.3: names are quoted where they must be, so that the words of a line say them again.
func TestNamesQuoted(t *testing.T) {
	for name, word := range odds() {
		tellsNode(t, "node "+word+" 1 live 0:0:0:0", api.Node{Name: name, Epoch: 1, Live: true})
		tellsOrder(t, "kill "+word+" 1 2 3", api.Order{Node: name, Epoch: 1, Job: 2, Attempt: 3})
		tellsOrder(t, "launch "+word+" 1 2 3 4", api.Order{Node: name, Epoch: 1, Job: 2, Attempt: 3, Launch: true, Tasks: []int64{4}})
		tellsJob(t, "job 1 running 2 at "+word, api.Job{ID: 1, State: api.Running, Attempt: 2, Nodes: []string{name}})
		tellsJob(t, "job 1 running 2 at a "+word+" b "+word, api.Job{ID: 1, State: api.Running, Attempt: 2, Nodes: []string{"a", name, "b", name}})
		if _, _, e := runes.Check(name); e == api.OK {
			words, _, e := runes.Words(order.Job(api.Job{State: api.Running, Nodes: []string{name, name}}))
			if e != api.OK || len(words) != 7 || words[4] != "at" || words[5] != name || words[6] != name {
				t.Errorf("of %q the words of a job's line are %q, %d", name, words, e)
			}
		}
	}
}
