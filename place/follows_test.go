package place_test

import (
	"math/rand"
	"slices"
	"strings"
	"testing"
	"unsafe"

	"drover/api"
	"drover/place"
)

// P16.3: what Fit answers After takes, Before gives that back, and After takes it again; by chance.
func TestUndone(t *testing.T) {
	r := rand.New(rand.NewSource(161))
	placed := 0
	for range 20000 {
		tasks, slots := someTasks(r, 1+r.Intn(6)), someSlots(r, 1+r.Intn(6))
		nodes, e := place.Fit(tasks, slots...)
		if e == api.ErrFull {
			continue
		}
		after, e := place.After(tasks, nodes, slots...)
		if e != api.OK {
			t.Fatalf("After(%v, %q, %s) = %d, though Fit has said so", tasks, nodes, shown(slots), e)
		}
		gives(t, tasks, nodes, after, slots...)
		leaves(t, tasks, nodes, slots, after...)
		placed++
	}
	if placed < 4000 {
		t.Fatalf("only %d gangs were placed", placed)
	}
}

// P16.3: on whatever nodes, Before undoes what After does, and After what Before does.
func TestUndoneAnywhere(t *testing.T) {
	r := rand.New(rand.NewSource(162))
	taken, given := 0, 0
	for range 20000 {
		tasks, slots := someTasks(r, 1+r.Intn(6)), someSlots(r, 1+r.Intn(6))
		var nodes []string
		for range tasks {
			nodes = append(nodes, slots[r.Intn(len(slots))].Node)
		}
		if after, e := place.After(tasks, nodes, slots...); e == api.OK {
			gives(t, tasks, nodes, after, slots...)
			taken++
		}
		if before, e := place.Before(tasks, nodes, slots...); e == api.OK {
			leaves(t, tasks, nodes, before, slots...)
			given++
		}
	}
	if taken < 1000 || given < 1000 {
		t.Fatalf("only %d were taken and %d given back", taken, given)
	}
}

// P16.3: a single task fits just if a slot holds it: it is held against every slot.
func TestSingleTask(t *testing.T) {
	r := rand.New(rand.NewSource(163))
	held := 0
	for range 5000 {
		task, slots := someTasks(r, 1), someSlots(r, r.Intn(7))
		node, found := "", false
		for i := len(slots) - 1; i >= 0; i-- {
			if _, e := place.Fit(task, slots[i]); e == api.OK {
				node, found = slots[i].Node, true
			}
			alone := slots[i].Free
			within := task[0][0] <= alone[0] && task[0][1] <= alone[1] && task[0][2] <= alone[2] && task[0][3] <= alone[3]
			if _, e := place.After(task, []string{slots[i].Node}, slots...); within != (e == api.OK) || !within && e != api.ErrOver {
				t.Fatalf("After(%v, %q, %s) = %d", task, slots[i].Node, shown(slots), e)
			}
			if _, e := place.Fit(task, slots[i]); within != (e == api.OK) || !within && e != api.ErrFull {
				t.Fatalf("Fit(%v, %s) = %d", task, shown(slots[i:i+1]), e)
			}
		}
		if !found {
			fitsNot(t, api.ErrFull, task, slots...)
			continue
		}
		fits(t, task, slots, node)
		held++
	}
	if held < 1000 {
		t.Fatalf("only %d were held", held)
	}
}

// P16.3: slots that are added behind change nothing for a gang that finds room without them.
func TestAddedBehind(t *testing.T) {
	r := rand.New(rand.NewSource(164))
	with, now := 0, 0
	for range 20000 {
		tasks, slots := someTasks(r, 1+r.Intn(6)), someSlots(r, 2+r.Intn(5))
		nodes, e := place.Fit(tasks, slots[:len(slots)-1]...)
		if e == api.OK {
			fits(t, tasks, slots, nodes...)
			with++
			continue
		}
		// Who finds room only now has the slot that was added.
		if nodes, e := place.Fit(tasks, slots...); e == api.OK {
			if !slices.Contains(nodes, slots[len(slots)-1].Node) {
				t.Fatalf("Fit(%v, %s) = %q", tasks, shown(slots), nodes)
			}
			now++
		}
	}
	if with < 1000 || now < 1000 {
		t.Fatalf("only %d found room without, %d with the slot that was added", with, now)
	}
	fits(t, gang(2, 2), []place.Slot{slot("a", 3), slot("b", 2)}, "a", "b")
	fits(t, gang(2), []place.Slot{slot("a", 3), slot("b", 2)}, "a")
}

// R5: what is handed in is left as it is, its spare room too, be it refused or not.
func TestHandedIn(t *testing.T) {
	for _, last := range []place.Slot{slot("e", 1), slot("e", -1), slot("a", 1)} {
		for n := range 8 {
			slots := []place.Slot{slot("c", 4), slot("a", 9), slot("b", 1), last, slot("spare", 1), slot("a", -9)}
			tasks := append(gang(1, 3, 2, 2, 3, 1, 0), vec(-7), vec(5))
			nodes := []string{"a", "c", "c", "nobody", "a", "a", "a", "spare", "c"}
			call := [3]any{slices.Clone(tasks), slices.Clone(nodes), slices.Clone(slots)}
			for _, m := range []int{n, max(n, 1) - 1} {
				place.Fit(tasks[:n], slots[:4]...)
				place.After(tasks[:n], nodes[:m], slots[:4]...)
				place.Before(tasks[:n], nodes[:m], slots[:4]...)
			}
			if !slices.Equal(tasks, call[0].([]api.Vector)) || !slices.Equal(nodes, call[1].([]string)) || !slices.Equal(slots, call[2].([]place.Slot)) {
				t.Fatalf("%v were handed in, and are %v, %q and %v now", call, tasks, nodes, slots)
			}
		}
	}
}

// R5: what is handed back is new memory, of which nothing is kept.
func TestHandedBack(t *testing.T) {
	slots := []place.Slot{slot("a", 3), slot("b", 3)}
	tasks, nodes := gang(1, 3, 2), []string{"b", "a", "b"}
	for range 2 {
		fit, _ := place.Fit(tasks, slots...)
		again, _ := place.Fit(tasks, slots...)
		after, _ := place.After(tasks, nodes, slots...)
		less, _ := place.After(tasks, nodes, slots...)
		before, _ := place.Before(tasks, nodes, slots...)
		more, _ := place.Before(tasks, nodes, slots...)
		clear(again[:cap(again)])
		clear(less[:cap(less)])
		clear(more[:cap(more)])
		if !slices.Equal(fit, nodes) || !slices.Equal(after, []place.Slot{slot("a"), slot("b")}) || !slices.Equal(before, []place.Slot{slot("a", 6), slot("b", 6)}) {
			t.Fatalf("what was answered is %q, %v and %v now", fit, after, before)
		}
		clear(fit[:cap(fit)])
		clear(after[:cap(after)])
		clear(before[:cap(before)])
	}
	if !slices.Equal(slots, []place.Slot{slot("a", 3), slot("b", 3)}) || !slices.Equal(nodes, []string{"b", "a", "b"}) {
		t.Fatalf("what was handed in is %v and %q now", slots, nodes)
	}
}

// R5: the bytes of a name that is answered are neither those of a slot nor of a node that was handed in, nor those of another answer.
func TestNamesAreNew(t *testing.T) {
	text := strings.Clone("a long text with names and others within")
	from := uintptr(unsafe.Pointer(unsafe.StringData(text)))
	met := map[*byte]bool{}
	own := func(s string) {
		t.Helper()
		data := unsafe.StringData(s)
		if at := uintptr(unsafe.Pointer(data)); at >= from && at < from+uintptr(len(text)) {
			t.Fatalf("%q is answered in the memory that was handed in", s)
		}
		if met[data] {
			t.Fatalf("%q is answered in the memory of another answer", s)
		}
		met[data] = true
	}
	slots := []place.Slot{slot(text[17:22], 4), slot(text[27:33], 3), slot(text, 2)}
	nodes := []string{text[27:33], text[17:22], text[17:22], text}
	tasks := gang(3, 3, 1, 2)
	fit, e := place.Fit(tasks, slots...)
	if !slices.Equal(fit, []string{"names", "others", "names", text}) || e != api.OK {
		t.Fatalf("Fit = %q, %d", fit, e)
	}
	for _, name := range fit {
		own(name)
	}
	for _, change := range []func([]api.Vector, []string, ...place.Slot) ([]place.Slot, api.Errno){place.After, place.Before} {
		l, e := change(tasks, nodes, slots...)
		if len(l) != 3 || e != api.OK {
			t.Fatalf("%s, %d", shown(l), e)
		}
		for i, s := range l {
			if s.Node != slots[i].Node {
				t.Fatalf("%q is answered for %q", s.Node, slots[i].Node)
			}
			own(s.Node)
		}
	}
}
