package order_test

import (
	"slices"
	"strings"
	"testing"
	"unsafe"

	"drover/api"
	"drover/order"
)

// within tells whether s has its bytes in the memory of text.
func within(s, text string) bool {
	at, from := uintptr(unsafe.Pointer(unsafe.StringData(s))), uintptr(unsafe.Pointer(unsafe.StringData(text)))
	return s != "" && at >= from && at < from+uintptr(len(text))
}

// R5: the names of a command that is answered are neither in the line's memory nor in that of another answer.
func TestNamesAreNew(t *testing.T) {
	for _, x := range saids() {
		line := strings.Clone(x.line)
		first, _ := order.Parse(line)
		second, _ := order.Parse(line)
		for i, name := range []string{first.Tenant.Name, first.Job.Tenant, first.Node} {
			other := []string{second.Tenant.Name, second.Job.Tenant, second.Node}[i]
			if within(name, line) || name != "" && within(name, other) {
				t.Errorf("%q: the name %q is in memory that isn't its own", x.line, name)
			}
		}
	}
}

// R5: the lists of a command that is answered are nobody else's, their spare room neither.
func TestListsAreNew(t *testing.T) {
	line := "submit 9 a 0 1 4,1,4,2 1:0:0:0 2:0:0:0 3:0:0:0"
	first, _ := order.Parse(line)
	second, _ := order.Parse(line)
	want, _ := order.Parse(line)
	clear(second.Job.Parents[:cap(second.Job.Parents)])
	clear(second.Job.Tasks[:cap(second.Job.Tasks)])
	if !same(first, want) || !slices.Equal(want.Job.Parents, []int64{1, 2, 4}) || len(want.Job.Tasks) != 3 {
		t.Errorf("behind a change of one answer another is %+v", first)
	}
	clear(first.Job.Parents[:cap(first.Job.Parents)])
	clear(first.Job.Tasks[:cap(first.Job.Tasks)])
	parses(t, line, want)
}

// withSpare is l with spare room behind it, in which more stands, and all of that.
func withSpare[T any](l []T, more ...T) ([]T, []T) {
	all := append(slices.Clone(l), more...)
	return all[:len(l)], all
}

// R5: what is handed in is left as it is, its spare room too, be it formed or not.
func TestHandedIn(t *testing.T) {
	for _, list := range [][]int64{{1, 2, 4}, {4, 2, 1}, {1, 1, 2}, {}, {0}} {
		for _, x := range saids() {
			parents, allParents := withSpare(list, 90, 80)
			tasks, allTasks := withSpare([]api.Vector{{1}, {2, 3}}, api.Vector{-7})
			nodes, allNodes := withSpare([]string{"b", "a b"}, "spare")
			done, allDone := withSpare([]string{"b"}, "spare")
			for _, c := range []order.Command{x.c, {Kind: x.c.Kind}} {
				c.Job = api.Job{ID: 3, Tenant: "a", Runtime: 1, Parents: parents, Tasks: tasks}
				order.Formed(c)
				order.Print(c)
				c.Job.State, c.Job.Nodes, c.Job.Done = api.Running, nodes, done
				order.Formed(c)
				order.Print(c)
				order.Job(c.Job)
			}
			order.Order(api.Order{Node: "n", Launch: true, Tasks: parents})
			order.Order(api.Order{Node: "n", Tasks: parents})
			if !slices.Equal(allParents, append(slices.Clone(list), 90, 80)) || !slices.Equal(allTasks, []api.Vector{{1}, {2, 3}, {-7}}) ||
				!slices.Equal(allNodes, []string{"b", "a b", "spare"}) || !slices.Equal(allDone, []string{"b", "spare"}) {
				t.Fatalf("%v were handed in, and with all else are %v, %v, %v, %v now", list, allParents, allTasks, allNodes, allDone)
			}
		}
	}
}

// R5: a line that is answered is in memory of its own, whatever names stand in it.
func TestLinesAreNew(t *testing.T) {
	text := strings.Clone(strings.Repeat("n", 16))
	for _, name := range []string{text, text[3:4]} {
		for _, tell := range []func() string{
			func() string { return order.Node(api.Node{Name: name}) },
			func() string { return order.Order(api.Order{Node: name}) },
			func() string { return order.Order(api.Order{Node: name, Launch: true, Tasks: []int64{1}}) },
			func() string { return order.Job(api.Job{State: api.Running, Nodes: []string{name, name}}) },
			func() string { s, _ := order.Print(order.Command{Kind: 6, Node: name, Epoch: 1}); return s },
		} {
			first, second := tell(), tell()
			if within(first, text) || within(first, second) || first != second {
				t.Errorf("%q and %q are not two lines of their own", first, second)
			}
		}
	}
}

// P20.1, P20.2: nothing is kept from call to call: each is answered as it was ahead of others.
func TestEachAlone(t *testing.T) {
	lines := []string{"", "halt", "cancel 0", "cancel x", "tick\n", "\xff", strings.Repeat(" ", 513)}
	for _, x := range saids() {
		lines = append(lines, x.line)
	}
	for _, line := range lines {
		first, e := order.Parse(line)
		own, e2 := order.Print(first)
		for _, other := range lines {
			c, _ := order.Parse(other)
			order.Print(c)
			order.Print(order.Command{Kind: 99})
			again, e3 := order.Parse(line)
			own2, e4 := order.Print(again)
			if !same(first, again) || e != e3 || own != own2 || e2 != e4 {
				t.Fatalf("behind %q the line %q is answered another way", other, line)
			}
		}
	}
}
