package core_test

import (
	"reflect"
	"slices"
	"testing"
	"unsafe"

	"drover/api"
	"drover/core"
	"drover/order"
)

// each goes through all lists and texts of a value, lists with their spare room.
func each(v reflect.Value, list, text func(reflect.Value)) {
	switch v.Kind() {
	case reflect.Interface:
		if !v.IsNil() {
			each(v.Elem(), list, text)
		}
	case reflect.Struct:
		for i := range v.NumField() {
			each(v.Field(i), list, text)
		}
	case reflect.Slice:
		v = v.Slice(0, v.Cap())
		for i := range v.Len() {
			each(v.Index(i), list, text)
		}
		if v.Cap() > 0 {
			list(v)
		}
	case reflect.String:
		if v.Len() > 0 {
			text(v)
		}
	}
}

// span is a piece of memory.
type span struct{ from, to uintptr }

// spans are the pieces of memory of all lists and texts of values.
func spans(l ...any) []span {
	var out []span
	for _, x := range l {
		each(reflect.ValueOf(x), func(v reflect.Value) {
			from := v.Pointer()
			out = append(out, span{from, from + uintptr(v.Cap())*v.Type().Elem().Size()})
		}, func(v reflect.Value) {
			from := uintptr(unsafe.Pointer(unsafe.StringData(v.String())))
			out = append(out, span{from, from + uintptr(v.Len())})
		})
	}
	return out
}

// apart asks that no two pieces of what was answered share a byte, nor one of them with what was handed in.
func apart(t *testing.T, what string, answered, handed []span) {
	t.Helper()
	for i, s := range answered {
		for _, other := range slices.Concat(answered[:i], handed) {
			if s.from < other.to && other.from < s.to {
				t.Fatalf("%s: two lists or texts share memory", what)
			}
		}
	}
}

// spoil overwrites all lists of values, with their spare room.
func spoil(l ...any) {
	for _, x := range l {
		each(reflect.ValueOf(x), func(v reflect.Value) {
			for i := range v.Len() {
				v.Index(i).SetZero()
			}
		}, func(reflect.Value) {})
	}
}

// mutable is a text whose bytes can be overwritten.
func mutable(s string) (string, []byte) {
	b := []byte(s)
	return unsafe.String(&b[0], len(b)), b
}

// spare is a list with room behind it, in which x stands.
func spare[T any](x T, l ...T) []T {
	l = append(make([]T, 0, len(l)+2), l...)
	l[:cap(l)][len(l)], l[:cap(l)][len(l)+1] = x, x
	return l
}

// roomy is a job all of whose lists have spare room.
func roomy(j api.Job) api.Job {
	j.Parents = spare(77, j.Parents...)
	j.Tasks = spare(vec(77), j.Tasks...)
	j.Nodes = spare("spare", j.Nodes...)
	j.Done = spare("spare", j.Done...)
	return j
}

// deep is all of a value's lists as a text, with their spare room.
func deep(x any) string {
	text := whole(x)
	each(reflect.ValueOf(x), func(v reflect.Value) { text += "; " + whole(v.Interface()) }, func(reflect.Value) {})
	return text
}

// R5: a state that is handed in is left as it is, spare room too, be it in order or not, and isn't kept.
func TestOfHandedIn(t *testing.T) {
	a, bytes := mutable("a")
	s := core.State{
		Tenants: spare(tenant("spare"), tenant("z", 5), tenant(a, 9)),
		Nodes:   spare(api.Node{Name: "spare"}, api.Node{Name: "n", Epoch: 1, Capacity: vec(9), Live: true}, api.Node{Name: "m", Epoch: 1, Live: true}),
		Jobs: spare(roomy(job(9, 9)),
			roomy(api.Job{ID: 4, Tenant: a, Runtime: 5, Tasks: []api.Vector{vec(1), vec(2)}, State: api.Running, Attempt: 1, Nodes: []string{"n", "m"}, Done: []string{"m"}}),
			roomy(api.Job{ID: 3, Tenant: "z", Runtime: 5, Parents: []int64{1, 2}, Tasks: []api.Vector{vec(1)}, State: api.Waiting}),
			roomy(api.Job{ID: 3, Tenant: "z", Runtime: 5, Parents: []int64{1, 2}, Tasks: []api.Vector{vec(1)}, State: api.Running})),
	}
	was := deep(s)
	c := core.Of(s)
	if now := deep(s); now != was {
		t.Fatalf("the state that was handed in is\n%s, and was\n%s", now, was)
	}
	is := whole(c.State())
	apart(t, "Of", spans(c.State(), c.Inner()), spans(s))
	spoil(s)
	bytes[0] = 'b'
	if now := whole(c.State()); now != is {
		t.Fatalf("the core's state is\n%s, and was\n%s", now, is)
	}
}

// R5: what State answers is nobody else's.
func TestStateHandedBack(t *testing.T) {
	c := core.Of(exampleState())
	does(t, c, "submit 5 a 1 1 1,2 1:0:0:0", "done n 1 3 2")
	was := whole(c.State())
	s, other := c.State(), c.State()
	apart(t, "State", spans(s, other, c.Inner()), nil)
	spoil(s)
	if now := whole(c.State()); now != was || whole(other) != was {
		t.Fatalf("the state is\n%s\n%s, and was\n%s", now, whole(other), was)
	}
}

// R5: a record that is handed in is left as it is and isn't kept; what workers are told is nobody else's.
func TestPlayHandedIn(t *testing.T) {
	c := core.New()
	a, bytesA := mutable("a")
	n, bytesN := mutable("n")
	m, bytesM := mutable("m")
	two := roomy(job(2, 1, 2, 1))
	// Neither may be anything but empty, and yet there may be room.
	two.Tenant, two.Parents = a, spare[int64](77, 1)
	one := roomy(job(1, 1))
	one.Tenant = a
	nodes := spare("spare", n, m, n)
	l := []api.Record{
		api.Joined{Tenant: api.Tenant{Name: a, Weight: 1, Quota: vec(9)}}, api.Up{Node: n, Epoch: 1, Capacity: vec(9)}, api.Up{Node: m, Epoch: 2, Capacity: vec(9)},
		api.Beat{Node: n}, submitted(one), released(1), placed(1, n), part(1, n), ended(1, api.Succeeded), submitted(two), released(2),
		api.Placed{Job: 2, Nodes: nodes}, api.Part{Job: 2, Node: n}, api.Part{Job: 2, Node: m},
	}
	var told []api.Order
	for _, r := range l {
		was := deep(r)
		before := whole(c.State())
		orders, e := c.Play(r)
		if e != api.OK || deep(r) != was {
			t.Fatalf("%s was played, error %d, and is\n%s", was, e, deep(r))
		}
		// Once more it isn't possible, but of two of them.
		if _, e := c.Play(r); (e != api.ErrState) != (r.Kind() == 3) || deep(r) != was {
			t.Fatalf("%s in %s was played again, error %d, and is\n%s", was, before, e, deep(r))
		}
		told = append(told, orders...)
		apart(t, brief(r), spans(orders, c.State(), c.Inner()), spans(r))
	}
	was := whole(c.State())
	spoil(two, one, nodes, told)
	for _, b := range [][]byte{bytesA, bytesN, bytesM} {
		b[0] = 'x'
	}
	if now := whole(c.State()); now != was {
		t.Fatalf("the state is\n%s, and was\n%s", now, was)
	}
}

// R5: a command that is handed in is left as it is and isn't kept; what Step and Ask answer is nobody else's.
func TestStepHandedIn(t *testing.T) {
	c := core.New()
	a, bytesA := mutable("a")
	n, bytesN := mutable("n")
	m, bytesM := mutable("m")
	submit := func(id, priority int64, amounts ...int64) order.Command {
		j := roomy(job(id, amounts...))
		j.Tenant, j.Priority = a, priority
		return order.Command{Kind: 2, Job: j}
	}
	four := submit(4, 1, 1)
	four.Job.Parents = spare[int64](77, 1, 3)
	l := []order.Command{
		{Kind: 1, Tenant: api.Tenant{Name: a, Weight: 1, Quota: vec(9)}},
		{Kind: 5, Node: n, Epoch: 1, Vector: vec(3)}, {Kind: 5, Node: m, Epoch: 1, Vector: vec(3)},
		submit(1, 1, 2, 2), four, submit(2, 1, 1), submit(3, 5, 3), {Kind: 6, Node: n, Epoch: 1}, {Kind: 10}, {Kind: 4, Number: 3}, {Kind: 9},
		{Kind: 7, Node: m, Epoch: 1, Number: 3, Attempt: 1}, {Kind: 7, Node: n, Epoch: 1, Number: 1, Attempt: 2}, {Kind: 5, Node: n, Epoch: 2, Vector: vec(3)}, {Kind: 3, Number: 1},
	}
	var all []any
	for _, x := range l {
		was := deep(x)
		_, foreseen := c.Ask(x)
		_, records, told := c.Step(x)
		if deep(x) != was {
			t.Fatalf("%s was handed in, and is\n%s", was, deep(x))
		}
		apart(t, was, spans(foreseen, records, told, c.State(), c.Inner()), spans(x))
		all = append(all, foreseen, records, told, x.Job)
	}
	was := whole(c.State())
	for _, x := range all {
		spoil(x)
	}
	for _, b := range [][]byte{bytesA, bytesN, bytesM} {
		b[0] = 'x'
	}
	if now := whole(c.State()); now != was {
		t.Fatalf("the state is\n%s, and was\n%s", now, was)
	}
}

// R5: the reply is new: one who overwrites it overwrites no other.
func TestReplyHandedBack(t *testing.T) {
	c := core.Of(exampleState())
	for _, line := range []string{"nodes", "query 1", "beat n 1", "cancel 50", "tick"} {
		x := parsed(t, line)
		reply, _ := c.Ask(x)
		was := slices.Clone(reply)
		clear(reply[:cap(reply)])
		again, _ := c.Ask(x)
		step, _, _ := c.Step(x)
		if !slices.Equal(again, was) || !slices.Equal(step, was) {
			t.Fatalf("%s: %q, %q and %q", line, was, again, step)
		}
	}
	var none *core.Core
	reply, _, _ := none.Step(parsed(t, "tick"))
	clear(reply)
	if reply, _, _ := none.Step(parsed(t, "tick")); !slices.Equal(reply, []string{"error 10"}) {
		t.Fatalf("%q", reply)
	}
}
