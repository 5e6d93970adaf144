package timer

import (
	"container/heap"
	"math/rand"
	"strconv"
	"testing"
)

// sound asks of c that each alarm is found where it stands, that none is earlier than its parent, and that nothing is kept of those that are gone.
func sound(t *testing.T, c *Clock) {
	t.Helper()
	if len(c.places) != len(c.alarms) {
		t.Fatalf("%d alarms, %d places", len(c.alarms), len(c.places))
	}
	for i, a := range c.alarms {
		if at, ok := c.places[a.Name]; !ok || at != i {
			t.Fatalf("the alarm %q is not found where it stands", a.Name)
		}
		if i > 0 && !(line{c}).Less((i-1)/2, i) {
			t.Fatalf("the alarm %q is earlier than its parent", a.Name)
		}
	}
	for _, a := range c.alarms[len(c.alarms):cap(c.alarms)] {
		if a != (Alarm{}) {
			t.Fatalf("the alarm %q is kept, though it is gone", a.Name)
		}
	}
}

// P10.1, P10.2: behind each call the alarms are a heap, and stand where the map says.
func TestShape(t *testing.T) {
	for seed := range int64(60) {
		r := rand.New(rand.NewSource(seed))
		c := New()
		for step := range 600 {
			name := strconv.Itoa(r.Intn(60))
			switch n := r.Intn(20); {
			case step < 50 || n < 12:
				c.Set(name, int64(r.Intn(30)))
			case n < 19:
				c.Cancel(name)
			default:
				c.Due(int64(r.Intn(10)))
			}
			sound(t, c)
		}
		c.Due(30)
		sound(t, c)
	}
}

// Ways: the library's heap has the clock by embedding, and what it is to hand back, were it no alarm, would panic.
func TestWays(t *testing.T) {
	c := New()
	var h heap.Interface = line{c}
	c.Set("a", 1)
	if h.Len() != 1 {
		t.Fatalf("the heap of a clock of one alarm has %d", h.Len())
	}
	defer func() {
		if recover() == nil {
			t.Fatal("what is no alarm was put into the heap")
		}
	}()
	h.Push("a")
}
