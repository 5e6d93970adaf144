package minmax

import (
	"math/rand"
	"testing"
)

// sound asks of h that its line has each entry at its place, and that its pairs are intervals, each within its parent's.
func sound(t *testing.T, h *Heap) {
	t.Helper()
	if len(h.line) != len(h.entries) {
		t.Fatalf("%d entries in the line, %d by their handles", len(h.line), len(h.entries))
	}
	for at, e := range h.line {
		if e.at != at || h.entries[e.handle] != e {
			t.Fatalf("entry %d is not found where it stands", e.handle)
		}
		left, right := e, e
		if at%2 == 0 && at+1 < len(h.line) {
			right = h.line[at+1]
		}
		if before(right, left) {
			t.Fatalf("the pair at %d stands the wrong way round", at)
		}
		if at < 2 {
			continue
		}
		above := (at/2 - 1) / 2 * 2
		if !before(h.line[above], left) || !before(right, h.line[above+1]) {
			t.Fatalf("the pair of place %d is not within the one above it", at)
		}
	}
	for _, e := range h.line[len(h.line):cap(h.line)] {
		if e != nil {
			t.Fatalf("entry %d is kept, though it is gone", e.handle)
		}
	}
}

// P9.2 to P9.4: the heap is an interval heap behind each call, so that both ends are found at once, and it keeps nothing of entries that are gone.
func TestShape(t *testing.T) {
	for seed := range int64(60) {
		r := rand.New(rand.NewSource(seed))
		h := New()
		some := func() Key { return Key{int64(r.Intn(100)), int64(r.Intn(3))} }
		for step := range 600 {
			switch c := r.Intn(20); {
			case step < 50 || c < 8:
				h.Insert(some())
			case c < 14:
				h.Update(r.Intn(h.given), some())
			case c < 16:
				h.Remove(r.Intn(h.given))
			case c < 18:
				h.PopMin()
			default:
				h.PopMax()
			}
			sound(t, h)
		}
		for h.Len() > 0 {
			h.PopMin()
			sound(t, h)
			h.PopMax()
			sound(t, h)
		}
	}
}
