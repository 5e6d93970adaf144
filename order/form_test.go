package order_test

import (
	"math"
	"slices"
	"strconv"
	"strings"
	"testing"

	"drover/api"
	"drover/order"
)

// A span is a number of a command, the kinds whose lines name it, and the least and the greatest that it may be there.
type span struct {
	name        string
	of          func(c *order.Command) *int64
	kinds       []int
	least, most int64
}

func spans() []span {
	l := []span{
		{"Tenant.Weight", func(c *order.Command) *int64 { return &c.Tenant.Weight }, []int{1}, 1, 1000},
		{"Job.ID", func(c *order.Command) *int64 { return &c.Job.ID }, []int{2}, 1, 100},
		{"Job.Priority", func(c *order.Command) *int64 { return &c.Job.Priority }, []int{2}, 0, 100},
		{"Job.Runtime", func(c *order.Command) *int64 { return &c.Job.Runtime }, []int{2}, 1, 1000},
		{"Job.Attempt", func(c *order.Command) *int64 { return &c.Job.Attempt }, nil, 0, 0},
		{"Job.Start", func(c *order.Command) *int64 { return &c.Job.Start }, nil, 0, 0},
		{"Epoch", func(c *order.Command) *int64 { return &c.Epoch }, []int{5, 6, 7, 8}, 1, last},
		{"Number", func(c *order.Command) *int64 { return &c.Number }, []int{3, 4, 7, 8}, 1, 100},
		{"Attempt", func(c *order.Command) *int64 { return &c.Attempt }, []int{7, 8}, 1, last},
	}
	for i := range 4 {
		place := strconv.Itoa(i)
		l = append(l,
			span{"Tenant.Quota " + place, func(c *order.Command) *int64 { return &c.Tenant.Quota[i] }, []int{1}, 0, top},
			span{"Vector " + place, func(c *order.Command) *int64 { return &c.Vector[i] }, []int{5}, 0, top})
	}
	return l
}

// An other is a field of a command that is no number, the kinds whose lines name it, and what it is made to be: what may stand there, and what may not.
type other struct {
	name      string
	kinds     []int
	good, bad []func(c *order.Command)
}

// set are functions that have a field be each value.
func set[T any](field func(c *order.Command) *T, values ...T) []func(c *order.Command) {
	var l []func(c *order.Command)
	for _, v := range values {
		l = append(l, func(c *order.Command) { *field(c) = v })
	}
	return l
}

func notNames() []string {
	return []string{"", "A", "a b", "a:b", "a,b", "é", "a.b", `"a"`, `\`, "a\n", "\xff", "a\x00", "ά", strings.Repeat("a", 17), strings.Repeat("α", 17), strings.Repeat("a", 5000)}
}

func goodNames() []string {
	return []string{"b", "-", "_", "0", "9", "z", "ω", "tick", "0-9_a-zα-ω", strings.Repeat("a", 16), strings.Repeat("α", 16)}
}

func others() []other {
	tenant := func(c *order.Command) *string { return &c.Tenant.Name }
	owner := func(c *order.Command) *string { return &c.Job.Tenant }
	node := func(c *order.Command) *string { return &c.Node }
	parents := func(c *order.Command) *[]int64 { return &c.Job.Parents }
	tasks := func(c *order.Command) *[]api.Vector { return &c.Job.Tasks }
	state := func(c *order.Command) *int { return &c.Job.State }
	nodes := func(c *order.Command) *[]string { return &c.Job.Nodes }
	reported := func(c *order.Command) *[]string { return &c.Job.Done }
	none := []int64{}
	all := api.Vector{top, top, top, top}
	return []other{
		{"Tenant.Name", []int{1}, set(tenant, goodNames()...), set(tenant, notNames()...)},
		{"Job.Tenant", []int{2}, set(owner, goodNames()...), set(owner, notNames()...)},
		{"Node", []int{5, 6, 7, 8}, set(node, goodNames()...), set(node, notNames()...)},
		{"Job.Parents", []int{2},
			set(parents, nil, none, []int64{1}, []int64{100}, []int64{2, 4}, []int64{1, 2, 4, 5}, []int64{97, 98, 99, 100}),
			set(parents, []int64{0}, []int64{-1}, []int64{101}, []int64{3}, []int64{2, 1}, []int64{1, 1}, []int64{1, 2, 3}, []int64{0, 1}, []int64{100, 101}, []int64{1, 2, 4, 5, 6}, []int64{1, 2, 4, 5, 5}, []int64{math.MinInt64}, []int64{1<<32 + 1}, make([]int64, 1000))},
		{"Job.Tasks", []int{2},
			set(tasks, []api.Vector{{}}, []api.Vector{all}, []api.Vector{{1}, {1}}, make([]api.Vector, 6)),
			set(tasks, nil, []api.Vector{}, make([]api.Vector, 7), []api.Vector{{-1}}, []api.Vector{{1}, {0, -1}}, []api.Vector{{1}, {1}, {0, 0, top + 1}}, []api.Vector{{0, 0, 0, math.MaxInt64}, {1}}, make([]api.Vector, 1000))},
		{"Job.State", nil, set(state, 0), set(state, -1, 1, 2, 3, 4, 5, 6, 7, math.MaxInt)},
		{"Job.Nodes", nil, set(nodes, nil, []string{}, make([]string, 0, 5)), set(nodes, []string{""}, []string{"a"}, []string{"a", "b"}, []string{"A"})},
		{"Job.Done", nil, set(reported, nil, []string{}, make([]string, 0, 5)), set(reported, []string{""}, []string{"a"}, []string{"a", "b"}, []string{"A"})},
	}
}

// holds asks that c is formed, and that its line says it again.
func holds(t *testing.T, what string, c order.Command) {
	t.Helper()
	line, e := order.Print(c)
	again, e2 := order.Parse(line)
	if !order.Formed(c) || e != api.OK || e2 != api.OK || !same(again, c) {
		t.Errorf("%s: Print(%+v) = %q, %d, and Parse of that %+v, %d", what, c, line, e, again, e2)
	}
}

// P20.2: each number of each kind at its least and greatest, and beyond; where a line doesn't name it, it is 0.
func TestSpans(t *testing.T) {
	for _, x := range saids() {
		x.c.Job.Parents = nil // which the number of a job might be among
		for _, s := range spans() {
			least, most := s.least, s.most
			if !slices.Contains(s.kinds, x.c.Kind) {
				least, most = 0, 0
			}
			what := x.line + ": " + s.name
			for _, n := range []int64{least, most, least + (most-least)/2} {
				c := x.c
				*s.of(&c) = n
				holds(t, what, c)
			}
			for _, n := range []int64{least - 1, most + 1, -1, math.MinInt64, -top, top + 1, most + 1<<32, math.MaxInt64} {
				c := x.c
				*s.of(&c) = n
				printsNot(t, what, c)
			}
			if most == 0 {
				for _, n := range []int64{1, 2, 3, 100, last} {
					c := x.c
					*s.of(&c) = n
					printsNot(t, what, c)
				}
			}
		}
	}
}

// P20.2: each other field of each kind, with what may stand there and what may not; where a line doesn't name it, it is zero, and what could stand there in another kind may not either.
func TestOthers(t *testing.T) {
	for _, x := range saids() {
		for _, o := range others() {
			what := x.line + ": " + o.name
			named := o.kinds == nil || slices.Contains(o.kinds, x.c.Kind)
			for _, do := range o.good {
				c, was := x.c, x.c
				do(&c)
				if named || same(c, was) {
					holds(t, what, c)
				} else {
					printsNot(t, what, c)
				}
			}
			for _, do := range o.bad {
				c, was := x.c, x.c
				do(&c)
				if !named && same(c, was) {
					holds(t, what, c)
				} else {
					printsNot(t, what, c)
				}
			}
		}
	}
}

// P20.2: a job's parents may be any four that rise but itself.
func TestParents(t *testing.T) {
	c := saids()[1].c
	for id := range int64(7) {
		for a := range int64(7) {
			for b := range int64(7) {
				c.Job.ID, c.Job.Parents = id, []int64{a, b}
				if id > 0 && 0 < a && a < b && a != id && b != id {
					holds(t, "parents", c)
				} else {
					printsNot(t, "parents", c)
				}
			}
		}
	}
}

// P20.2: there are ten kinds; with what one of them names no other is formed, but by those that name the same, and by up: a vector of noughts is formed.
func TestKindsThereAre(t *testing.T) {
	alike := map[int][]int{1: {1}, 2: {2}, 3: {3, 4}, 4: {3, 4}, 5: {5}, 6: {5, 6}, 7: {7, 8}, 8: {7, 8}, 9: {9, 10}, 10: {9, 10}}
	for _, x := range saids() {
		for _, kind := range []int{math.MinInt, -10, -9, -1, 0, 11, 12, 100, 1 << 32, 1<<32 + 9, math.MaxInt} {
			c := x.c
			c.Kind = kind
			printsNot(t, x.line, c)
			printsNot(t, "nothing", order.Command{Kind: kind})
		}
		for kind := 1; kind <= 10; kind++ {
			c := x.c
			c.Kind = kind
			if slices.Contains(alike[x.c.Kind], kind) {
				holds(t, x.line, c)
			} else {
				printsNot(t, x.line, c)
			}
		}
	}
	for kind := 1; kind <= 8; kind++ {
		printsNot(t, "nothing but the kind", order.Command{Kind: kind})
	}
	printsNot(t, "nothing", order.Command{})
}

// P20.2: of two kinds what each names together is neither.
func TestTwoKinds(t *testing.T) {
	for _, x := range saids() {
		for _, y := range saids() {
			c := x.c
			if c.Tenant.Name == "" {
				c.Tenant = y.c.Tenant
			}
			if c.Job.ID == 0 {
				c.Job = y.c.Job
			}
			if c.Node == "" {
				c.Node, c.Epoch = y.c.Node, y.c.Epoch
			}
			if c.Number == 0 {
				c.Number = y.c.Number
			}
			if same(c, x.c) {
				continue
			}
			printsNot(t, x.line+" and "+y.line, c)
		}
	}
}

// P20.2, R2: of what isn't formed nothing is printed, however long its line would be.
func TestFormAheadOfLong(t *testing.T) {
	long := strings.Repeat("a", 10000)
	printsNot(t, "a long name", order.Command{Kind: 1, Tenant: api.Tenant{Name: long, Weight: 1}})
	printsNot(t, "a long name", order.Command{Kind: 6, Node: long, Epoch: 1})
	printsNot(t, "many tasks", order.Command{Kind: 2, Job: api.Job{ID: 1, Tenant: "a", Runtime: 1, Tasks: make([]api.Vector, 10000)}})
}
