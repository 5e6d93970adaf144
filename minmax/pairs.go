package minmax

import "cmp"

// A heap's line is read as pairs: places 0 and 1, 2 and 3, and so on, the last pair having one place alone where there is an odd number of entries. Pair i is the parent of pairs 2i+1 and 2i+2. A pair is an interval, from the entry at its low end to the one at its high end, within its parent's: so the first pair has the least entry and the greatest one.

// entry is what stands at one place of the line.
type entry struct {
	handle int
	key    Key
	at     int // its place
}

// side is one of a pair's two ends.
type side int

const (
	low side = iota
	high
)

// before tells whether a comes out ahead of b from below. No two are alike, as handles are not.
func before(a, b *entry) bool {
	for i := range a.key {
		if c := cmp.Compare(a.key[i], b.key[i]); c != 0 {
			return c < 0
		}
	}
	return a.handle < b.handle
}

// outward tells whether the entry at place a comes out ahead of the one at place b from that side.
func (h *Heap) outward(a, b int, s side) bool {
	if s == high {
		a, b = b, a
	}
	return before(h.line[a], h.line[b])
}

// end is the place of a pair's end at that side: a pair of one entry has that one at both.
func (h *Heap) end(pair int, s side) int {
	return min(2*pair+int(s), len(h.line)-1)
}

func (h *Heap) put(e *entry, at int) {
	h.line[at], e.at = e, at
}

func (h *Heap) swap(a, b int) {
	first, second := h.line[a], h.line[b]
	h.put(first, b)
	h.put(second, a)
}

// add puts e into the heap.
func (h *Heap) add(e *entry) {
	if h.entries == nil {
		h.entries = map[int]*entry{}
	}
	h.entries[e.handle] = e
	e.at = len(h.line)
	h.line = append(h.line, e)
	h.mend(e.at)
}

// drop takes e out of the heap, and puts the last of the line in its stead.
func (h *Heap) drop(e *entry) {
	last := len(h.line) - 1
	at := e.at
	h.swap(at, last)
	h.line[last] = nil
	h.line = h.line[:last]
	delete(h.entries, e.handle)
	if at < last {
		h.mend(at)
	}
}

// mend makes pairs intervals within their parents' again, where the entry at one place, and none but that, may be any.
func (h *Heap) mend(at int) {
	pair := at / 2
	h.turn(pair)
	for _, s := range [...]side{low, high} {
		h.sink(h.end(pair, s), s)
		h.rise(h.end(pair, s), s)
	}
}

// turn swaps the two of a pair, if they stand the wrong way round.
func (h *Heap) turn(pair int) {
	left, right := h.end(pair, low), h.end(pair, high)
	if h.outward(right, left, low) {
		h.swap(left, right)
	}
}

// rise moves the entry at that place up along its side, as far as it comes out ahead of those above.
func (h *Heap) rise(at int, s side) {
	for at/2 > 0 {
		above := h.end((at/2-1)/2, s)
		if !h.outward(at, above, s) {
			return
		}
		h.swap(at, above)
		at = above
	}
}

// sink moves the entry at that place down along its side, as long as one below comes out ahead of it. One that is beyond the other end of the pair that it comes to stays there, and that other one goes on in its stead.
func (h *Heap) sink(at int, s side) {
	for {
		below := h.below(at, s)
		if below == at {
			return
		}
		h.swap(at, below)
		h.turn(below / 2)
		at = below
	}
}

// below is the place of what comes out first from that side: of the entry at that place, and of the ends of the pairs below it.
func (h *Heap) below(at int, s side) int {
	pair, first := at/2, at
	for child := 2*pair + 1; child <= 2*pair+2 && 2*child < len(h.line); child++ {
		if end := h.end(child, s); h.outward(end, first, s) {
			first = end
		}
	}
	return first
}
