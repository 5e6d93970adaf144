package worker_test

import (
	"math/rand"
	"slices"
	"strings"
	"testing"
	"unsafe"

	"drover/api"
	"drover/worker"
)

// P19.4: a node's epoch never falls, and is another only where it registers.
func TestEpochsRise(t *testing.T) {
	for seed := range 40 {
		r := rand.New(rand.NewSource(int64(1900 + seed)))
		c := &chances{Rand: r, names: names()[:6]}
		w, p := worker.New(), &plain{}
		rises := 0
		for range 400 {
			before := w.All()
			a := call(t, c, w, p, "rRbbbett")
			for _, n := range before {
				now, e := w.Get(n.Name)
				if e != api.OK || now.Epoch < n.Epoch {
					t.Fatalf("%v has become %v, %d", n, now, e)
				}
				if now.Epoch > n.Epoch {
					rises++
				}
				if now.Epoch > n.Epoch && (a.kind != 'r' || a.e != api.OK) || now.Epoch == n.Epoch && now.Live && !n.Live {
					t.Fatalf("behind the call %c, %d %v has become %v", a.kind, a.e, n, now)
				}
			}
		}
		if rises < 20 {
			t.Fatalf("epochs rose only %d times", rises)
		}
	}
}

// P19.4: a node that is heard within each Lease ticks doesn't expire, however long that goes; nor does one that registers anew so. One that isn't does.
func TestHeard(t *testing.T) {
	for gap := int64(1); gap <= lease+1; gap++ {
		w := of(t, live("b", 1, 1, 0), live("c", 1, 1, 0))
		epoch := int64(1)
		for now := int64(1); now <= 50*lease; now++ {
			if now%gap == 0 {
				if gap > lease {
					expires(t, w, now)
					beatsNot(t, w, api.ErrStale, "b", 1, now)
					break
				}
				beats(t, w, "b", 1, now)
				epoch++
				ups(t, w, true, live("c", epoch, 1, now))
			}
			if gap > lease && now == lease {
				expires(t, w, now, "b", "c")
				continue
			}
			expires(t, w, now)
		}
	}
}

// P19.4: the same by chance, of many nodes, each of which is heard at most Lease ticks behind the last time.
func TestHeardByChance(t *testing.T) {
	for seed := range most {
		r := rand.New(rand.NewSource(int64(190 + seed)))
		w := worker.New()
		due := map[string]int64{}
		for i := range most {
			ups(t, w, false, live(number(i), 1, 1, 0))
			due[number(i)] = 1 + r.Int63n(lease)
		}
		// One is never heard again, and is lost when its lease is over.
		delete(due, number(seed))
		for now := range int64(20 * lease) {
			for _, name := range numbers() {
				if due[name] == now && now > 0 {
					beats(t, w, name, 1, now)
					due[name] = now + 1 + r.Int63n(lease)
				}
			}
			if now == lease {
				expires(t, w, now, number(seed))
				continue
			}
			expires(t, w, now)
		}
	}
}

// P19.3: whether it was asked who is lost tick by tick or at once, the same are.
func TestAtOnce(t *testing.T) {
	for seed := range 60 {
		r := rand.New(rand.NewSource(int64(seed)))
		var tables [2]worker.Table
		for i := range most {
			seen := r.Int63n(30)
			for j := range tables {
				ups(t, &tables[j], false, live(number(i), 1, 1, seen))
			}
		}
		now := r.Int63n(40)
		atOnce := tables[0].Expire(now)
		var byTicks []string
		for tick := range now + 1 {
			byTicks = append(byTicks, tables[1].Expire(tick)...)
		}
		slices.Sort(byTicks)
		if !slices.Equal(atOnce, byTicks) || !slices.Equal(tables[0].All(), tables[1].All()) {
			t.Fatalf("at once %q, tick by tick %q", atOnce, byTicks)
		}
	}
}

// R7: what is done to one table is nothing to another.
func TestApart(t *testing.T) {
	w, v := of(t, live("a", 1, 4, 0), live("b", 1, 4, 3)), of(t, live("a", 1, 4, 0))
	expires(t, v, lease, "a")
	holds(t, w, live("a", 1, 4, 0), live("b", 1, 4, 3))
	ups(t, v, false, live("b", 9, 9, 9))
	expires(t, w, lease, "a")
	holds(t, v, lost("a", 1, 4, 0), live("b", 9, 9, 9))
}

// R5: what is handed back is new memory, of which nothing is kept.
func TestHandedBack(t *testing.T) {
	nodes := []api.Node{live("a", 1, 4, 0), live("b", 1, 4, 3), live("c", 1, 4, 0)}
	w := of(t, nodes...)
	for _, list := range []func() []api.Node{w.All, w.Live} {
		first, second := list(), list()
		clear(second[:cap(second)])
		if !slices.Equal(first, nodes) {
			t.Fatalf("nodes that were answered are %v now", first)
		}
		first[0].Capacity[0] = 7
		clear(first[:cap(first)])
		holds(t, w, nodes...)
	}
	n, _ := w.Get("a")
	n.Capacity[0], n.Live = 7, false
	whole := w.Whole()
	whole[0] = 7
	holds(t, w, nodes...)
	first := w.Expire(lease)
	ups(t, w, false, live("a", 2, 4, 0))
	second := w.Expire(lease)
	if !slices.Equal(first, []string{"a", "c"}) || !slices.Equal(second, []string{"a"}) {
		t.Fatalf("Expire = %q, %q", first, second)
	}
	clear(second[:cap(second)])
	if !slices.Equal(first, []string{"a", "c"}) {
		t.Fatalf("names that were answered are %q now", first)
	}
	clear(first[:cap(first)])
	holds(t, w, lost("a", 2, 4, 0), nodes[1], lost("c", 1, 4, 0))
	expires(t, w, 13, "b")
}

// R5: lists that were answered stay as they are, whatever is done to the table.
func TestAnswersStay(t *testing.T) {
	nodes := []api.Node{live("a", 1, 4, 0), live("b", 1, 4, 3)}
	w := of(t, nodes...)
	all, heard := w.All(), w.Live()
	gone := w.Expire(lease)
	ups(t, w, true, live("b", 2, 8, 9))
	ups(t, w, false, live("-", 2, 8, 9))
	ups(t, w, false, live("a", 2, 8, 9))
	expires(t, w, 19, "-", "a", "b")
	if !slices.Equal(all, nodes) || !slices.Equal(heard, nodes) || !slices.Equal(gone, []string{"a"}) {
		t.Fatalf("what was answered is %v, %v, %q now", all, heard, gone)
	}
}

// R5: the bytes of a name that is handed in aren't kept, be it by the first registration, by another, or by a beat, live or not.
func TestNameIsNotKept(t *testing.T) {
	text := strings.Clone("a long text with a name within")
	name := text[19:23]
	from := uintptr(unsafe.Pointer(unsafe.StringData(text)))
	own := func(names ...string) {
		t.Helper()
		for _, s := range names {
			if at := uintptr(unsafe.Pointer(unsafe.StringData(s))); at >= from && at < from+uintptr(len(text)) {
				t.Fatal("the table has the name in the memory that was handed in")
			}
		}
	}
	w := of(t, live("b", 1, 1, 100))
	for epoch := int64(1); epoch < 8; epoch += 2 {
		for _, call := range []func(){
			func() { ups(t, w, false, live(name, epoch, 1, 0)) },
			func() { beats(t, w, name, epoch, 0) },
			func() { beats(t, w, name, epoch, 1) },
			func() { ups(t, w, true, live(name, epoch+1, 1, 2)) },
			func() { beats(t, w, name, epoch+1, 3) },
		} {
			call()
			n, _ := w.Get(name)
			own(n.Name, w.All()[1].Name, w.Live()[1].Name)
		}
		gone := w.Expire(13)
		own(gone...)
		if n, _ := w.Get(name); len(gone) != 1 || n != lost("name", epoch+1, 1, 3) {
			t.Fatalf("Expire(13) = %q, %v", gone, n)
		}
		n, _ := w.Get(name)
		own(n.Name, w.All()[1].Name)
	}
}
