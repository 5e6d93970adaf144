package order_test

import (
	"math"
	"slices"
	"strings"
	"testing"

	"drover/api"
	"drover/order"
)

const (
	top    = api.MaxAmount
	last   = math.MaxInt32 // the greatest epoch and attempt
	number = "9999999999999"
)

// said is a line with the command that it says. Each place of roles tells what the word there is: the first one, a name, a number, a vector, a list.
type said struct {
	line  string
	roles string
	c     order.Command
}

// saids are a line of each kind, as it is printed, rising by their kinds.
func saids() []said {
	job := api.Job{ID: 3, Tenant: "alice", Priority: 5, Runtime: 10, Parents: []int64{1, 2}, Tasks: []api.Vector{{1, 2, 3, 4}, {5, 0, 6, 0}}}
	return []said{
		{"tenant a 7 1:2:3:4", "fanv", order.Command{Kind: 1, Tenant: api.Tenant{Name: "a", Weight: 7, Quota: api.Vector{1, 2, 3, 4}}}},
		{"submit 3 alice 5 10 1,2 1:2:3:4 5:0:6:0", "fnannlvv", order.Command{Kind: 2, Job: job}},
		{"cancel 4", "fn", order.Command{Kind: 3, Number: 4}},
		{"query 5", "fn", order.Command{Kind: 4, Number: 5}},
		{"up node-1 6 4:3:2:1", "fanv", order.Command{Kind: 5, Node: "node-1", Epoch: 6, Vector: api.Vector{4, 3, 2, 1}}},
		{"beat αβ 8", "fan", order.Command{Kind: 6, Node: "αβ", Epoch: 8}},
		{"done n 1 2 3", "fannn", order.Command{Kind: 7, Node: "n", Epoch: 1, Number: 2, Attempt: 3}},
		{"fail n_9 3 1 2", "fannn", order.Command{Kind: 8, Node: "n_9", Epoch: 3, Number: 1, Attempt: 2}},
		{"tick", "f", order.Command{Kind: 9}},
		{"nodes", "f", order.Command{Kind: 10}},
	}
}

// with is the line with another word at a place.
func (x said) with(place int, word string) string {
	words := strings.Fields(x.line)
	words[place] = word
	return strings.Join(words, " ")
}

// same tells whether two commands are alike, where a list of no elements is nil in one and not in the other too.
func same(a, b order.Command) bool {
	return a.Kind == b.Kind && a.Tenant == b.Tenant && sameJob(a.Job, b.Job) &&
		a.Node == b.Node && a.Epoch == b.Epoch && a.Vector == b.Vector && a.Number == b.Number && a.Attempt == b.Attempt
}

func sameJob(a, b api.Job) bool {
	return a.ID == b.ID && a.Tenant == b.Tenant && a.Priority == b.Priority && a.Runtime == b.Runtime &&
		slices.Equal(a.Parents, b.Parents) && slices.Equal(a.Tasks, b.Tasks) &&
		a.State == b.State && a.Attempt == b.Attempt && slices.Equal(a.Nodes, b.Nodes) && a.Start == b.Start && slices.Equal(a.Done, b.Done)
}

// parses asks that the line says c, that c is formed, and that its own line says it again.
func parses(t *testing.T, line string, want order.Command) {
	t.Helper()
	c, e := order.Parse(line)
	if e != api.OK || !same(c, want) {
		t.Errorf("Parse(%q) = %+v, %d; want %+v", line, c, e, want)
		return
	}
	own, e := order.Print(c)
	if again, e2 := order.Parse(own); e != api.OK || e2 != api.OK || !same(again, want) || !order.Formed(c) {
		t.Errorf("of %q Print = %q, %d, and Parse of that %+v, %d", line, own, e, again, e2)
	}
}

// parsesNot asks that the line is refused by that error, with no command.
func parsesNot(t *testing.T, want api.Errno, lines ...string) {
	t.Helper()
	for _, line := range lines {
		if c, e := order.Parse(line); e != want || !same(c, order.Command{}) {
			t.Errorf("Parse(%q) = %+v, %d; want nothing, %d", line, c, e, want)
		}
	}
}

// prints asks that c is formed, has that line, and is said by it.
func prints(t *testing.T, c order.Command, want string) {
	t.Helper()
	if line, e := order.Print(c); e != api.OK || line != want || !order.Formed(c) {
		t.Errorf("Print(%+v) = %q, %d; want %q", c, line, e, want)
	}
	if again, e := order.Parse(want); e != api.OK || !same(again, c) {
		t.Errorf("Parse(%q) = %+v, %d; want %+v", want, again, e, c)
	}
}

// printsNot asks that c isn't formed, and has no line.
func printsNot(t *testing.T, what string, c order.Command) {
	t.Helper()
	if line, e := order.Print(c); e != api.ErrForm || line != "" || order.Formed(c) {
		t.Errorf("%s: Print(%+v) = %q, %d, Formed = %t; want nothing, ErrForm", what, c, line, e, order.Formed(c))
	}
}

// P20.1: the chapter's examples.
func TestExamples(t *testing.T) {
	job := api.Job{ID: 3, Tenant: "alice", Priority: 5, Runtime: 10, Parents: []int64{1, 2}, Tasks: []api.Vector{{1}, {2}}}
	parses(t, "submit 3 alice 5 10 1,2 1:0:0:0 2:0:0:0", order.Command{Kind: 2, Job: job})
	parsesNot(t, api.ErrBad, "submit 3 alice 5 10 - 1:0:0", "cancel 01")
	parsesNot(t, api.ErrLine, "submit 3 alice 5 10 -", "halt", "cancel 1 2")
	parsesNot(t, api.ErrForm, "cancel 0")
}

// P20.1, P20.2, P20.4: each kind, said and told.
func TestKinds(t *testing.T) {
	for i, x := range saids() {
		if x.c.Kind != i+1 {
			t.Fatalf("%q stands at %d", x.line, i)
		}
		parses(t, x.line, x.c)
		prints(t, x.c, x.line)
	}
}

// P20.1, P20.2, P20.4: each kind with the least that a line can say, and with the greatest.
func TestLeastAndGreatest(t *testing.T) {
	long := strings.Repeat("ω", 16)
	all := "1099511627776:1099511627776:1099511627776:1099511627776"
	full := api.Vector{top, top, top, top}
	for _, x := range []said{
		{"tenant - 1 0:0:0:0", "", order.Command{Kind: 1, Tenant: api.Tenant{Name: "-", Weight: 1}}},
		{"submit 1 a 0 1 - 0:0:0:0", "", order.Command{Kind: 2, Job: api.Job{ID: 1, Tenant: "a", Runtime: 1, Tasks: []api.Vector{{}}}}},
		{"cancel 1", "", order.Command{Kind: 3, Number: 1}},
		{"query 1", "", order.Command{Kind: 4, Number: 1}},
		{"up _ 1 0:0:0:0", "", order.Command{Kind: 5, Node: "_", Epoch: 1}},
		{"beat 0 1", "", order.Command{Kind: 6, Node: "0", Epoch: 1}},
		{"done 0 1 1 1", "", order.Command{Kind: 7, Node: "0", Epoch: 1, Number: 1, Attempt: 1}},
		{"fail 0 1 1 1", "", order.Command{Kind: 8, Node: "0", Epoch: 1, Number: 1, Attempt: 1}},
		{"tenant " + long + " 1000 " + all, "", order.Command{Kind: 1, Tenant: api.Tenant{Name: long, Weight: 1000, Quota: full}}},
		{"submit 99 " + long + " 100 1000 96,97,98,100" + strings.Repeat(" "+all, 6), "", order.Command{Kind: 2, Job: api.Job{
			ID: 99, Tenant: long, Priority: 100, Runtime: 1000, Parents: []int64{96, 97, 98, 100}, Tasks: slices.Repeat([]api.Vector{full}, 6)}}},
		{"cancel 100", "", order.Command{Kind: 3, Number: 100}},
		{"query 100", "", order.Command{Kind: 4, Number: 100}},
		{"up " + long + " 2147483647 " + all, "", order.Command{Kind: 5, Node: long, Epoch: last, Vector: full}},
		{"beat " + long + " 2147483647", "", order.Command{Kind: 6, Node: long, Epoch: last}},
		{"done " + long + " 2147483647 100 2147483647", "", order.Command{Kind: 7, Node: long, Epoch: last, Number: 100, Attempt: last}},
		{"fail " + long + " 2147483647 100 2147483647", "", order.Command{Kind: 8, Node: long, Epoch: last, Number: 100, Attempt: last}},
	} {
		parses(t, x.line, x.c)
		prints(t, x.c, x.line)
	}
}

// P20.1: a name may be what looks like a first word, a number or a list.
func TestNamesLikeOthers(t *testing.T) {
	for _, name := range []string{"tick", "tenant", "1", "01", "-", "00000000000000", "beat"} {
		parses(t, "beat "+name+" 1", order.Command{Kind: 6, Node: name, Epoch: 1})
		prints(t, order.Command{Kind: 6, Node: name, Epoch: 1}, "beat "+name+" 1")
		prints(t, order.Command{Kind: 1, Tenant: api.Tenant{Name: name, Weight: 2}}, "tenant "+name+" 2 0:0:0:0")
		prints(t, order.Command{Kind: 2, Job: api.Job{ID: 1, Tenant: name, Runtime: 1, Tasks: []api.Vector{{}}}}, "submit 1 "+name+" 0 1 - 0:0:0:0")
	}
}

// P20.1, P20.4: how many spaces stand between words, ahead of them and behind them is nothing to the command, nor to its line.
func TestSpaces(t *testing.T) {
	for _, x := range saids() {
		for _, line := range []string{" " + x.line, x.line + " ", "   " + x.line + "  ", strings.ReplaceAll(x.line, " ", "  "), strings.ReplaceAll("  "+x.line+"  ", " ", "     ")} {
			parses(t, line, x.c)
			c, _ := order.Parse(line)
			prints(t, c, x.line)
		}
	}
}

// P20.1: a quoted word says what a bare one says, be it the first word, a name, a number, a vector or a list; what is quoted is one word, its spaces too.
func TestQuotedWords(t *testing.T) {
	for _, x := range saids() {
		words := strings.Fields(x.line)
		for i, word := range words {
			parses(t, x.with(i, `"`+word+`"`), x.c)
			for _, odd := range []string{`"` + word + ` "`, `" ` + word + `"`, `"` + word + `\""`, `"` + word + `\\"`, `"` + strings.Join(strings.Split(word, ""), " ") + ` "`} {
				switch x.roles[i] {
				case 'f':
					parsesNot(t, api.ErrLine, x.with(i, odd))
				case 'a':
					parsesNot(t, api.ErrForm, x.with(i, odd))
				default:
					parsesNot(t, api.ErrBad, x.with(i, odd))
				}
			}
		}
		parses(t, `"`+strings.Join(words, `" "`)+`"`, x.c)
		if len(words) > 1 {
			parsesNot(t, api.ErrLine, `"`+x.line+`"`)
		}
	}
	parses(t, `"submit" "3" "alice" "5" "10" "-" "1:0:0:0"`, order.Command{Kind: 2, Job: api.Job{ID: 3, Tenant: "alice", Priority: 5, Runtime: 10, Tasks: []api.Vector{{1}}}})
	parses(t, `  "tick"  `, order.Command{Kind: 9})
}
