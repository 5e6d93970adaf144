package worker

import (
	"maps"
	"math/rand"
	"strconv"
	"testing"

	"drover/api"
	"drover/vector"
)

// sound asks of t that each node stands by its own name and is formed, and that the clock has an alarm of each live node, at the tick from which on its lease is over, and of nobody else.
func sound(test *testing.T, t *Table) {
	test.Helper()
	alarms := 0
	for name, n := range t.nodes {
		if n.Name != name || n.Epoch < 1 || n.Epoch > maxEpoch || !vector.Formed(n.Capacity) || n.Seen < 0 || n.Seen > api.MaxNow {
			test.Fatalf("by the name %q there is %v", name, n)
		}
		at, err := t.leases.Get(name)
		if n.Live != (err == api.OK) || n.Live && at != n.Seen+api.Lease {
			test.Fatalf("%v has an alarm at %d, %d", n, at, err)
		}
		if n.Live {
			alarms++
		}
	}
	if t.leases.Len() != alarms || len(t.nodes) > api.MaxNodes {
		test.Fatalf("%d nodes, of which %d are live, and %d alarms", len(t.nodes), alarms, t.leases.Len())
	}
}

// P19.1 to P19.3, R4: behind each call the nodes and the clock are of one mind; behind one that answers an error the table is as it was, also where that doesn't show.
func TestShape(t *testing.T) {
	for seed := range int64(60) {
		r := rand.New(rand.NewSource(seed))
		w := New()
		now := int64(0)
		for range 600 {
			before := maps.Clone(w.nodes)
			name, epoch, at := strconv.Itoa(r.Intn(15)), r.Int63n(60)-1, now+r.Int63n(6)-3
			err := api.OK
			switch n := r.Intn(20); {
			case n < 6:
				_, err = w.Register(name, epoch, api.Vector{r.Int63n(20) - 1}, at)
			case n < 16:
				err = w.Beat(name, w.nodes[name].Epoch+r.Int63n(4)/3, at)
			case n < 18:
				w.Expire(at)
			default:
				now += r.Int63n(5)
			}
			sound(t, w)
			if err != api.OK && !maps.Equal(w.nodes, before) {
				t.Fatalf("behind the error %d the table is another", err)
			}
		}
	}
}

// P19.1, P19.2: asking leaves the table as it was, and keeps nothing of what was asked for or refused.
func TestAskingLeaves(t *testing.T) {
	w := New()
	w.Register("a", 3, api.Vector{4}, 5)
	before := maps.Clone(w.nodes)
	for _, name := range []string{"a", "b", ""} {
		w.Get(name)
		w.All()
		w.Live()
		w.Whole()
		w.Expire(14)
		w.Beat(name, 4, 5)
		w.Beat(name, 3, 4)
		w.Register(name, 0, api.Vector{}, 9)
		sound(t, w)
	}
	if !maps.Equal(w.nodes, before) {
		t.Fatal("asking has changed the table")
	}
}
