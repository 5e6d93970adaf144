package evict_test

import (
	"math"
	"math/rand"
	"slices"
	"strings"
	"testing"
	"unsafe"

	"drover/api"
	"drover/evict"
	"drover/place"
)

// byJob is the victim of that job.
func byJob(victims []evict.Victim, job int64) evict.Victim {
	return victims[slices.IndexFunc(victims, func(v evict.Victim) bool { return v.Job == job })]
}

// behind are the slots behind the going of these.
func behind(t *testing.T, c call, gone []int64) []place.Slot {
	t.Helper()
	slots := c.slots
	for _, job := range gone {
		v := byJob(c.victims, job)
		left, e := place.Before(v.Tasks, v.Nodes, slots...)
		if e != api.OK {
			t.Fatalf("%d can't give back: %d", job, e)
		}
		slots = left
	}
	return slots
}

// P17.3: with one victim fewer there is no room, and with those who go there is, just where it is said; nobody goes whose priority is not below; by chance.
func TestOneFewer(t *testing.T) {
	r := rand.New(rand.NewSource(173))
	met := map[int]int{}
	for range 20000 {
		c := someCall(r, 1000)
		gone, nodes, e := c.choose()
		if e != api.OK {
			continue
		}
		met[min(len(gone), 4)]++
		if fit, e := place.Fit(c.tasks, behind(t, c, gone)...); !slices.Equal(fit, nodes) || e != api.OK {
			t.Fatalf("behind the going of %d Fit answers %q, %d, not %q", gone, fit, e, nodes)
		}
		for i := range gone {
			if _, e := place.Fit(c.tasks, behind(t, c, gone[:i])...); e != api.ErrFull {
				t.Fatalf("%d go of %s, though there is room behind the first %d: %d", gone, shown(c.victims), i, e)
			}
			if p := byJob(c.victims, gone[i]).Priority; p >= c.priority {
				t.Fatalf("%d goes, of the priority %d, which is not below %d", gone[i], p, c.priority)
			}
		}
	}
	for n := range 5 {
		if met[n] < 500 {
			t.Fatalf("only %d times %d had to go", met[n], n)
		}
	}
}

// P17.3: those who go are the first of the turns of those who are below; who is not below changes nothing but that it is asked.
func TestFirstOfTurns(t *testing.T) {
	r := rand.New(rand.NewSource(174))
	without := 0
	for range 5000 {
		c := someCall(r, 1000)
		gone, nodes, e := c.choose()
		if e != api.OK && e != api.ErrFull {
			continue
		}
		less := slices.DeleteFunc(slices.Clone(c.victims), func(v evict.Victim) bool { return v.Priority >= c.priority })
		turns, _ := evict.Turns(less...)
		if !slices.Equal(gone, turns[:len(gone)]) {
			t.Fatalf("%d go, not the first of %d", gone, turns)
		}
		if len(less) == len(c.victims) {
			continue
		}
		without++
		c.victims = less
		if e == api.OK {
			chooses(t, c, gone, nodes...)
		} else {
			refuses(t, e, c)
		}
		// Whoever asks with the greatest priority finds those ahead first.
		c.priority = math.MaxInt64
		if e == api.OK {
			chooses(t, c, gone, nodes...)
		}
	}
	if without < 1000 {
		t.Fatalf("only %d had victims who are not below", without)
	}
}

// deep is a copy of victims that has nothing of them, spare room among it.
func deep(l []evict.Victim) []evict.Victim {
	l = slices.Clone(l[:cap(l)])
	for i := range l {
		l[i].Tasks = slices.Clone(l[i].Tasks[:cap(l[i].Tasks)])
		l[i].Nodes = slices.Clone(l[i].Nodes[:cap(l[i].Nodes)])
	}
	return l
}

// alike tells whether a victim's tasks and nodes are those of b, spare room among them.
func alike(a, b evict.Victim) bool {
	return a.Job == b.Job && a.Priority == b.Priority && a.Start == b.Start &&
		slices.Equal(a.Tasks[:cap(a.Tasks)], b.Tasks) && slices.Equal(a.Nodes[:cap(a.Nodes)], b.Nodes)
}

// R5: what is handed in is left as it is, its spare room too, be it refused or not.
func TestHandedIn(t *testing.T) {
	for _, last := range []evict.Victim{runs(4, 0, 9, "c", 4), runs(4, 0, 9, "c", -4), runs(4, 0, 9, "nobody", 4), runs(1, 0, 9, "c", 4), runs(4, 9, 9, "c", top)} {
		for n := range 8 {
			for _, priority := range []int64{0, 1, 5} {
				two := evict.Victim{Job: 3, Priority: 2, Start: 8, Tasks: append(make([]api.Vector, 0, 5), gang(1, 2)...), Nodes: append(make([]string, 0, 4), "a", "b")}
				copy(two.Tasks[2:5], gang(7, 8, 9))
				copy(two.Nodes[2:4], []string{"spare", "room"})
				all := []evict.Victim{runs(2, 1, 3, "a", 1), two, last, runs(1, 0, 3, "b", 2), runs(7, -9, 7, "a", 7), runs(2, 0, 0, "z", -1)}
				tasks := append(gang(1, 3, 2, 2, 3, 1, 0), vec(-7), vec(5))
				slots := []place.Slot{slot("c", 1), slot("a", 1), slot("b", 1), slot("spare", 1), slot("a", -9)}
				victims, were := all[:4], deep(all[:4])
				tasksWere, slotsWere := slices.Clone(tasks), slices.Clone(slots)
				evict.Turns(victims...)
				evict.Choose(tasks[:n], priority, victims, slots[:3]...)
				if !slices.Equal(tasks, tasksWere) || !slices.Equal(slots, slotsWere) {
					t.Fatalf("%v and %v were handed in, and are %v and %v now", tasksWere, slotsWere, tasks, slots)
				}
				if !slices.EqualFunc(all, were, alike) {
					t.Fatalf("%s were handed in, and are %s now", shown(were), shown(all))
				}
			}
		}
	}
}

// R5: what is handed back is new memory, of which nothing is kept.
func TestHandedBack(t *testing.T) {
	c := sound()
	for range 2 {
		turns, _ := evict.Turns(c.victims...)
		gone, nodes, _ := c.choose()
		for range 2 {
			others, _ := evict.Turns(c.victims...)
			jobs, where, _ := c.choose()
			clear(others[:cap(others)])
			clear(jobs[:cap(jobs)])
			clear(where[:cap(where)])
		}
		if !slices.Equal(turns, []int64{0, 1, 2, 3, 4}) || !slices.Equal(gone, []int64{0, 1}) || !slices.Equal(nodes, []string{"b", "a"}) {
			t.Fatalf("what was answered is %d, %d and %q now", turns, gone, nodes)
		}
		clear(turns[:cap(turns)])
		clear(gone[:cap(gone)])
		clear(nodes[:cap(nodes)])
	}
	if !slices.EqualFunc(c.victims[:cap(c.victims)], deep(sound().victims), alike) || !slices.Equal(c.slots, sound().slots) {
		t.Fatalf("what was handed in is %s and %v now", shown(c.victims), c.slots)
	}
}

// R5: the bytes of a name that is answered are neither those of a slot nor of a victim's node that was handed in, nor those of another answer.
func TestNamesAreNew(t *testing.T) {
	text := strings.Clone("a long text with names and others within")
	from := uintptr(unsafe.Pointer(unsafe.StringData(text)))
	met := map[*byte]bool{}
	slots := []place.Slot{slot(text[17:22], 4), slot(text[27:33], 3), slot(text, 2)}
	victims := []evict.Victim{runs(1, 0, 0, text[27:33], 1), runs(2, 1, 0, text, 9)}
	for _, x := range []struct {
		tasks []api.Vector
		gone  []int64
		nodes []string
	}{
		{gang(3, 3, 1, 2), nil, []string{"names", "others", "names", text}},
		{gang(4, 4, 1, 1), []int64{1}, []string{"names", "others", text, text}},
		{gang(4, 4, 9), []int64{1, 2}, []string{"names", "others", text}},
	} {
		c := call{x.tasks, 2, victims, slots}
		chooses(t, c, x.gone, x.nodes...)
		_, nodes, _ := c.choose()
		for _, name := range nodes {
			data := unsafe.StringData(name)
			if at := uintptr(unsafe.Pointer(data)); at >= from && at < from+uintptr(len(text)) {
				t.Fatalf("%q is answered in the memory that was handed in", name)
			}
			if met[data] {
				t.Fatalf("%q is answered in the memory of another answer", name)
			}
			met[data] = true
		}
	}
}
