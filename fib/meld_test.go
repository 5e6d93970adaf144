package fib_test

import (
	"testing"

	"drover/api"
	"drover/fib"
)

// P8.4: nil and the heap itself are ErrState, and nothing is changed.
func TestMeldState(t *testing.T) {
	h := full(t, key(1, 2, 7), key(1, 3, 9))
	meld(t, h, nil, 0, api.ErrState)
	meld(t, h, h, 0, api.ErrState)
	size(t, h, 2)
	put(t, h, key(1, 9, 0), 2)
	pops(t, h, 2, 1, 0)
	meld(t, h, h, 0, api.ErrState)
	put(t, h, key(1, 9, 0), 3)
}

// P8.4: the entries have the heap's number of handles added to theirs, also where entries of both are gone; all that other ever had count.
func TestMeldHandles(t *testing.T) {
	h := full(t, key(5, 1, 0), key(1, 1, 0), key(6, 1, 0))
	pops(t, h, 1)
	other := full(t, key(9, 1, 0), key(2, 1, 0), key(7, 1, 0), key(3, 1, 0), key(8, 1, 0))
	pops(t, other, 1)
	remove(t, other, 4, api.OK)
	meld(t, h, other, 3, api.OK)
	size(t, h, 5)
	lacks(t, h, 1, 4, 7, 8)
	holds(t, h, 0, key(5, 1, 0))
	holds(t, h, 2, key(6, 1, 0))
	holds(t, h, 3, key(9, 1, 0))
	holds(t, h, 5, key(7, 1, 0))
	holds(t, h, 6, key(3, 1, 0))
	put(t, h, key(4, 1, 0), 8)
	decrease(t, h, 3, key(1, 1, 0), api.OK)
	remove(t, h, 5, api.OK)
	pops(t, h, 3, 6, 8, 0, 2)
	empty(t, h)
}

// P8.4: other is empty, as new: its handles begin again at 0, and nothing done to one of the two is seen in the other.
func TestMeldOther(t *testing.T) {
	h := full(t, key(5, 1, 0))
	other := full(t, key(4, 1, 0), key(6, 1, 0))
	meld(t, h, other, 1, api.OK)
	empty(t, other)
	lacks(t, other, 0, 1, 2)
	decrease(t, other, 0, key(0, 1, 0), api.ErrNone)
	remove(t, other, 1, api.ErrNone)
	put(t, other, key(3, 1, 0), 0)
	put(t, other, key(1, 1, 0), 1)
	decrease(t, other, 0, key(2, 1, 0), api.OK)
	pops(t, other, 1)
	size(t, h, 3)
	least(t, h, 1, key(4, 1, 0))
	meld(t, h, other, 3, api.OK)
	empty(t, other)
	holds(t, h, 3, key(2, 1, 0))
	lacks(t, h, 4)
	meld(t, h, other, 5, api.OK)
	meld(t, h, other, 5, api.OK)
	put(t, h, key(9, 1, 0), 5)
	pops(t, h, 3, 1, 0, 2, 5)
}

// P8.4: with an empty heap, of an empty heap with a full one, of one that is empty and had handles, and of such a one with another.
func TestMeldEmpty(t *testing.T) {
	h := full(t, key(5, 1, 0))
	meld(t, h, fib.New(), 1, api.OK)
	least(t, h, 0, key(5, 1, 0))

	first := fib.New()
	meld(t, first, h, 0, api.OK)
	empty(t, h)
	least(t, first, 0, key(5, 1, 0))

	emptied := full(t, key(1, 1, 0), key(2, 1, 0))
	pops(t, emptied, 0, 1)
	meld(t, first, emptied, 1, api.OK)
	size(t, first, 1)
	put(t, first, key(7, 1, 0), 3)
	put(t, emptied, key(8, 1, 0), 0)
	pops(t, emptied, 0)

	meld(t, emptied, first, 1, api.OK)
	lacks(t, emptied, 0, 2, 3)
	pops(t, emptied, 1, 4)
	put(t, emptied, key(8, 1, 0), 5)

	a, b := full(t, key(1, 1, 0)), full(t, key(1, 1, 0), key(2, 1, 0))
	pops(t, a, 0)
	pops(t, b, 0, 1)
	meld(t, a, b, 1, api.OK)
	empty(t, a)
	put(t, a, key(1, 1, 0), 3)
	put(t, b, key(1, 1, 0), 0)
}

// P8.4, P8.2: of like keys the heap's own come ahead of those that were other's, whoever's came in first, and whoever's is the least.
func TestMeldLikeKeys(t *testing.T) {
	other := full(t, key(1, 2, 0), key(2, 4, 0), key(1, 3, 0))
	h := full(t, key(3, 6, 0), key(1, 2, 0))
	meld(t, h, other, 2, api.OK)
	least(t, h, 4, key(1, 3, 0))
	pops(t, h, 4, 0, 1, 2, 3)

	other, h = full(t, key(1, 2, 0)), full(t, key(2, 4, 0))
	meld(t, h, other, 1, api.OK)
	least(t, h, 0, key(2, 4, 0))
	pops(t, h, 0, 1)
}

// P8.4: trees of both, whose entries are made less and deleted behind the Meld.
func TestMeldTrees(t *testing.T) {
	const n = 50
	a, b := fib.New(), fib.New()
	for i := range n {
		put(t, a, key(uint64(100+2*i), 1, 0), i)
		put(t, b, key(uint64(101+2*i), 1, 0), i)
	}
	pops(t, a, 0)
	pops(t, b, 0, 1)
	meld(t, a, b, n, api.OK)
	empty(t, b)
	for i := 2; i < n; i++ {
		put(t, b, key(1, 1, 0), i-2)
		decrease(t, a, n+i, key(uint64(99-i), 1, 0), api.OK)
		least(t, a, n+i, key(uint64(99-i), 1, 0))
	}
	for i := 1; i < n; i += 2 {
		remove(t, a, i, api.OK)
	}
	for i := n - 1; i >= 2; i-- {
		pops(t, a, n+i)
	}
	for i := 2; i < n; i += 2 {
		pops(t, a, i)
	}
	empty(t, a)
	ordered(t, b)
}

// P8.4: the handles of both are at most 2^20; ErrState is asked ahead of ErrFull, and nothing is changed beside either.
func TestMeldFull(t *testing.T) {
	fill := func(n int) *fib.Heap {
		h := fib.New()
		for i := range n {
			put(t, h, key(1, 1, int64(n-i)), i)
		}
		return h
	}
	a, b := fill(most/2), fill(most/2+1)
	meld(t, a, b, 0, api.ErrFull)
	meld(t, b, a, 0, api.ErrFull)
	meld(t, b, b, 0, api.ErrState)
	size(t, a, most/2)
	size(t, b, most/2+1)
	remove(t, b, 0, api.OK)
	meld(t, a, b, 0, api.ErrFull)
	put(t, a, key(0, 1, 0), most/2)
	put(t, b, key(0, 1, 0), most/2+1)
	pops(t, b, most/2+1, most/2)

	a, b = fill(most/2), fill(most/2-1)
	put(t, b, key(1, 1, 0), most/2-1)
	pops(t, b, most/2-1)
	meld(t, a, b, most/2, api.OK)
	empty(t, b)
	size(t, a, most-1)
	if n, e := a.Insert(key(1, 1, 1)); n != 0 || e != api.ErrFull {
		t.Fatal(n, e)
	}
	meld(t, a, a, 0, api.ErrState)
	meld(t, a, nil, 0, api.ErrState)
	meld(t, a, b, most, api.OK)
	put(t, b, key(1, 1, 0), 0)
	meld(t, a, b, 0, api.ErrFull)
	meld(t, b, a, 0, api.ErrFull)
	size(t, b, 1)
	pops(t, a, most/2-1, most-2, most/2-2)
	c := fib.New()
	meld(t, c, a, 0, api.OK)
	size(t, c, most-4)
	empty(t, a)
	put(t, a, key(5, 1, 0), 0)
	pops(t, c, most-3, most/2-3)
}
