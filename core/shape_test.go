package core

import (
	"reflect"
	"slices"
	"strings"
	"testing"

	"drover/api"
)

// Inner is the state in the core's own memory.
func (c *Core) Inner() State { return c.state }

// P21.1: a core keeps its state, and nothing beside.
func TestKeepsTheState(t *testing.T) {
	if n := reflect.TypeOf(Core{}).NumField(); n != 1 {
		t.Fatalf("a core has %d fields", n)
	}
}

// The work that is done has its state by embedding: what it does is done to that.
func TestWorkHasItsState(t *testing.T) {
	s := State{Tenants: []api.Tenant{{Name: "a", Weight: 1, Quota: api.Vector{9}}}}
	r := round{work: &work{State: &s}}
	r.do(api.Ticked{})
	r.do(api.Beat{Node: "n"})
	r.do(api.Up{Node: "n", Epoch: 1})
	if s.Now != 1 || r.Now != 1 || len(s.Nodes) != 1 || len(r.records) != 2 {
		t.Fatalf("behind two records the state is %+v, the work %+v", s, *r.work)
	}
}

// P21.1: of no record nothing is played.
func TestPlayNothing(t *testing.T) {
	var s State
	if orders, ok := s.play(own(nil)); ok || len(orders) != 0 || !reflect.DeepEqual(s, State{}) {
		t.Fatalf("nothing has been played: %v, %v, %+v", orders, ok, s)
	}
	if r := own(api.Placed{Job: 1, Nodes: []string{"b", "a"}}); !reflect.DeepEqual(r, api.Placed{Job: 1, Nodes: []string{"b", "a"}}) {
		t.Fatalf("its own is %+v", r)
	}
}

// P21.1, P21.2: who descends is told once, rising, on however many ways; in a circle too it ends.
func TestHeirs(t *testing.T) {
	has := func(id int64, parents ...int64) api.Job { return api.Job{ID: id, Parents: parents} }
	s := State{Jobs: []api.Job{has(1, 9), has(2), has(3, 1, 5), has(4, 3), has(5, 9), has(6, 4, 5, 7), has(8, 2)}}
	for id, want := range map[int64][]int64{9: {1, 3, 4, 5, 6}, 1: {3, 4, 6}, 7: {6}, 2: {8}, 6: nil, 50: nil} {
		if got := s.heirs(id); !slices.Equal(got, want) {
			t.Fatalf("from %d descend %v, not %v", id, got, want)
		}
	}
	s = State{Jobs: []api.Job{has(1, 3), has(2, 1, 2), has(3, 2), has(4, 4)}}
	for id, want := range map[int64][]int64{1: {2, 3}, 2: {1, 3}, 3: {1, 2}, 4: nil} {
		if got := s.heirs(id); !slices.Equal(got, want) {
			t.Fatalf("in a circle from %d descend %v, not %v", id, got, want)
		}
	}
}

// P21.1: lists rise by their keys, whatever order things come in, and what is looked for is found.
func TestLists(t *testing.T) {
	var l []api.Node
	names := strings.Fields("d b é a c aa z")
	for i, name := range names {
		l = put(l, nodeName, api.Node{Name: name, Epoch: int64(i)})
	}
	if !slices.IsSortedFunc(l, func(a, b api.Node) int { return strings.Compare(a.Name, b.Name) }) || len(l) != len(names) {
		t.Fatalf("the list is %+v", l)
	}
	for i, name := range names {
		if n := find(l, nodeName, name); n == nil || n.Epoch != int64(i) {
			t.Fatalf("%s is found as %+v", name, n)
		}
	}
	for _, name := range []string{"", "ab", "zz", "y"} {
		if n := find(l, nodeName, name); n != nil {
			t.Fatalf("%s is found as %+v", name, *n)
		}
	}
	// Of one key the first one stays.
	l = rising([]api.Node{{Name: "b", Epoch: 1}, {Name: "a", Epoch: 2}, {Name: "b", Epoch: 3}, {Name: "a", Epoch: 4}}, nodeName)
	if len(l) != 2 || l[0].Epoch != 2 || l[1].Epoch != 1 {
		t.Fatalf("the list is %+v", l)
	}
}
