package fill_test

import (
	"math/rand"
	"slices"
	"strings"
	"testing"
	"unsafe"

	"drover/api"
	"drover/fill"
	"drover/place"
)

// P18.3: who is admitted finds room now, and the start of who waits is no later with them than without; by chance.
func TestNoLaterThanWithout(t *testing.T) {
	r := rand.New(rand.NewSource(183))
	met := map[bool]int{}
	for range 20000 {
		c := someCall(r, 1000)
		nodes, ok, _ := c.admit()
		if !ok {
			continue
		}
		if fit, e := place.Fit(c.later, c.slots...); !slices.Equal(fit, nodes) || e != api.OK {
			t.Fatalf("%s: now Fit answers %q, %d, not %q", c.text(), fit, e, nodes)
		}
		start, _, e := c.start()
		if met[e == api.OK]++; e != api.OK {
			continue
		}
		if tick, _, e := with(t, c).start(); tick > start || e != api.OK {
			t.Fatalf("%s: the head starts at %d without later, and at %d, %d with it", c.text(), start, tick, e)
		}
	}
	if met[true] < 1000 || met[false] < 1000 {
		t.Fatalf("of those who were admitted %v had a head who starts", met)
	}
}

// P18.3: who isn't admitted, though there is room now, would have the head's start be another.
func TestAnotherStartWith(t *testing.T) {
	r := rand.New(rand.NewSource(184))
	met := 0
	for range 20000 {
		c := someCall(r, 1000)
		_, ok, e := c.admit()
		if _, none := place.Fit(c.later, c.slots...); ok || e != api.OK || none != api.OK || len(c.runs) == api.MaxJobs {
			continue
		}
		met++
		start, _, e := c.start()
		if tick, _, none := with(t, c).start(); e != api.OK || none == api.OK && tick == start {
			t.Fatalf("%s: later isn't admitted, though the head starts at %d, %d without it, and at %d, %d with it", c.text(), start, e, tick, none)
		}
	}
	if met < 500 {
		t.Fatalf("only %d were not admitted", met)
	}
}

// P18.1, P18.2: the start is the first tick of all: at it there is room, and at none from now on ahead of it.
func TestStartIsLeast(t *testing.T) {
	r := rand.New(rand.NewSource(186))
	met := map[bool]int{}
	for range 20000 {
		c := someCall(r, 1000)
		start, nodes, e := c.start()
		if e != api.OK {
			continue
		}
		met[start > c.now]++
		if fit, e := place.Fit(c.head, slotsAt(start, c)...); !slices.Equal(fit, nodes) || e != api.OK {
			t.Fatalf("%s: at %d Fit answers %q, %d, not %q", c.text(), start, fit, e, nodes)
		}
		for tick := c.now; tick < start; tick++ {
			if _, e := place.Fit(c.head, slotsAt(tick, c)...); e != api.ErrFull {
				t.Fatalf("%s: at %d there is room already, not at %d first: %d", c.text(), tick, start, e)
			}
		}
	}
	if met[true] < 500 || met[false] < 500 {
		t.Fatalf("those who wait for their start are %v", met)
	}
}

// deep is a copy of runs that has nothing of them, spare room among it.
func deep(l []fill.Run) []fill.Run {
	l = slices.Clone(l[:cap(l)])
	for i := range l {
		l[i].Tasks = slices.Clone(l[i].Tasks[:cap(l[i].Tasks)])
		l[i].Nodes = slices.Clone(l[i].Nodes[:cap(l[i].Nodes)])
	}
	return l
}

// alike tells whether a run's tasks and nodes are those of b, spare room among them.
func alike(a, b fill.Run) bool {
	return a.Job == b.Job && a.End == b.End &&
		slices.Equal(a.Tasks[:cap(a.Tasks)], b.Tasks) && slices.Equal(a.Nodes[:cap(a.Nodes)], b.Nodes)
}

// R5: what is handed in is left as it is, its spare room too, be it refused or not.
func TestHandedIn(t *testing.T) {
	for _, last := range []fill.Run{run(4, 9, "c", 4), run(4, 9, "c", -4), run(4, 9, "nobody", 4), run(4, -1, "c", 4), run(4, 9, "c", top)} {
		for heads := range 8 {
			for laters := range 8 {
				two := fill.Run{Job: 3, End: 8, Tasks: append(make([]api.Vector, 0, 5), gang(1, 2)...), Nodes: append(make([]string, 0, 4), "a", "b")}
				copy(two.Tasks[2:5], gang(7, 8, 9))
				copy(two.Nodes[2:4], []string{"spare", "room"})
				all := []fill.Run{run(2, 3, "a", 1), two, last, run(1, 13, "b", 2), run(7, 7, "a", 7), run(2, 0, "z", -1)}
				head := append(gang(1, 3, 2, 2, 3, 1, 0), vec(-7), vec(5))
				later := append(gang(1, 0, 0, 1, 0, 0, 0), vec(-7), vec(5))
				slots := []place.Slot{slot("c", 1), slot("a", 1), slot("b", 1), slot("spare", 1), slot("a", -9)}
				runs, were := all[:4], deep(all[:4])
				headWas, laterWas, slotsWere := slices.Clone(head), slices.Clone(later), slices.Clone(slots)
				for runtime := range int64(12) {
					fill.Start(5, head[:heads], runs, slots[:3]...)
					fill.Admit(5, head[:heads], later[:laters], runtime, runs, slots[:3]...)
				}
				if !slices.Equal(head, headWas) || !slices.Equal(later, laterWas) || !slices.Equal(slots, slotsWere) {
					t.Fatalf("%v, %v and %v were handed in, and are %v, %v and %v now", headWas, laterWas, slotsWere, head, later, slots)
				}
				if !slices.EqualFunc(all, were, alike) {
					t.Fatalf("%s were handed in, and are %s now", shown(were), shown(all))
				}
			}
		}
	}
}

// R5: what is handed back is new memory, of which nothing is kept.
func TestHandedBack(t *testing.T) {
	c := sound()
	for range 2 {
		_, nodes, _ := c.start()
		where, _, _ := c.admit()
		for range 2 {
			_, others, _ := c.start()
			more, _, _ := c.admit()
			clear(others[:cap(others)])
			clear(more[:cap(more)])
		}
		if !slices.Equal(nodes, []string{"b", "a"}) || !slices.Equal(where, []string{"a", "b"}) {
			t.Fatalf("what was answered is %q and %q now", nodes, where)
		}
		clear(nodes[:cap(nodes)])
		clear(where[:cap(where)])
	}
	if !slices.EqualFunc(c.runs[:cap(c.runs)], deep(sound().runs), alike) || !slices.Equal(c.slots, sound().slots) {
		t.Fatalf("what was handed in is %s and %v now", shown(c.runs), c.slots)
	}
}

// R5: the bytes of a name that is answered are neither those of a slot nor of a run's node that was handed in, nor those of another answer.
func TestNamesAreNew(t *testing.T) {
	text := strings.Clone("a long text with names and others within")
	from := uintptr(unsafe.Pointer(unsafe.StringData(text)))
	met := map[*byte]bool{}
	fresh := func(nodes []string) {
		for _, name := range nodes {
			data := unsafe.StringData(name)
			if at := uintptr(unsafe.Pointer(data)); at >= from && at < from+uintptr(len(text)) {
				t.Fatalf("%q is answered in the memory that was handed in", name)
			}
			if met[data] {
				t.Fatalf("%q is answered in the memory of another answer", name)
			}
			met[data] = true
		}
	}
	c := call{later: gang(3, 4, 2), runtime: 5, slots: []place.Slot{slot(text[17:22], 4), slot(text[27:33], 3), slot(text, 2)}}
	c.runs = []fill.Run{run(1, 7, text[27:33], 1), run(2, 9, text, 9)}
	for _, x := range []struct {
		head  []api.Vector
		tick  int64
		nodes []string
	}{
		{gang(3, 3, 1, 2), 0, []string{"names", "others", "names", text}},
		{gang(4, 4, 1, 1), 7, []string{"names", "others", text, text}},
		{gang(4, 4, 9), 9, []string{"names", "others", text}},
		{gang(4, 4, 10), 9, []string{"names", "others", text}},
	} {
		c.head = x.head
		starts(t, c, x.tick, x.nodes...)
		_, nodes, _ := c.start()
		fresh(nodes)
		if x.tick > 0 {
			admits(t, c, "others", "names", text)
			where, _, _ := c.admit()
			fresh(where)
		}
	}
	c.head = gang(50)
	startsNot(t, api.ErrFull, c)
	admits(t, c, "others", "names", text)
	where, _, _ := c.admit()
	fresh(where)
}

// P18.1, P18.2: nothing is kept from call to call: each is answered as it was ahead of another.
func TestEachAlone(t *testing.T) {
	r := rand.New(rand.NewSource(187))
	for range 300 {
		c := someCall(r, 20)
		first := held(t, c)
		held(t, someCall(r, 20))
		if again := held(t, c); again != first {
			t.Fatalf("%s: %v is answered, and then %v", c.text(), first, again)
		}
	}
}
