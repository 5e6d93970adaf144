package fib_test

import (
	"math"
	"testing"

	"drover/api"
	"drover/fib"
	"drover/ratio"
)

const most = 1 << 20 // handles of one heap

func key(n, d uint64, tie int64) fib.Key {
	return fib.Key{Ratio: ratio.Ratio{N: n, D: d}, Tie: tie}
}

// full is a heap of keys, which has them by the handles 0, 1, 2, ..
func full(t *testing.T, keys ...fib.Key) *fib.Heap {
	t.Helper()
	h := fib.New()
	for i, k := range keys {
		put(t, h, k, i)
	}
	return h
}

func put(t *testing.T, h *fib.Heap, k fib.Key, want int) {
	t.Helper()
	if n, e := h.Insert(k); n != want || e != api.OK {
		t.Fatalf("Insert(%v) = %d, %d, not %d", k, n, e, want)
	}
}

func holds(t *testing.T, h *fib.Heap, handle int, want fib.Key) {
	t.Helper()
	if k, e := h.Get(handle); k != want || e != api.OK {
		t.Fatalf("Get(%d) = %v, %d, not %v", handle, k, e, want)
	}
}

func lacks(t *testing.T, h *fib.Heap, handles ...int) {
	t.Helper()
	for _, handle := range handles {
		if k, e := h.Get(handle); k != (fib.Key{}) || e != api.ErrNone {
			t.Fatalf("Get(%d) = %v, %d, not ErrNone", handle, k, e)
		}
	}
}

func size(t *testing.T, h *fib.Heap, want int) {
	t.Helper()
	if n := h.Len(); n != want {
		t.Fatalf("Len = %d, not %d", n, want)
	}
}

func least(t *testing.T, h *fib.Heap, handle int, want fib.Key) {
	t.Helper()
	if n, k, e := h.Min(); n != handle || k != want || e != api.OK {
		t.Fatalf("Min = %d, %v, %d, not %d, %v", n, k, e, handle, want)
	}
}

// pops pops one entry a handle, and asks Min and Len ahead of and behind each.
func pops(t *testing.T, h *fib.Heap, handles ...int) {
	t.Helper()
	for _, handle := range handles {
		left := h.Len()
		want, e := h.Get(handle)
		if e != api.OK {
			t.Fatalf("Get(%d): %d", handle, e)
		}
		least(t, h, handle, want)
		if n, k, e := h.Pop(); n != handle || k != want || e != api.OK {
			t.Fatalf("Pop = %d, %v, %d, not %d, %v", n, k, e, handle, want)
		}
		size(t, h, left-1)
		lacks(t, h, handle)
	}
}

func empty(t *testing.T, h *fib.Heap) {
	t.Helper()
	size(t, h, 0)
	if n, k, e := h.Min(); n != 0 || k != (fib.Key{}) || e != api.ErrNone {
		t.Fatalf("Min of an empty heap = %d, %v, %d", n, k, e)
	}
	if n, k, e := h.Pop(); n != 0 || k != (fib.Key{}) || e != api.ErrNone {
		t.Fatalf("Pop of an empty heap = %d, %v, %d", n, k, e)
	}
}

func decrease(t *testing.T, h *fib.Heap, handle int, k fib.Key, want api.Errno) {
	t.Helper()
	if e := h.Decrease(handle, k); e != want {
		t.Fatalf("Decrease(%d, %v) = %d, not %d", handle, k, e, want)
	}
}

func remove(t *testing.T, h *fib.Heap, handle int, want api.Errno) {
	t.Helper()
	if e := h.Delete(handle); e != want {
		t.Fatalf("Delete(%d) = %d, not %d", handle, e, want)
	}
}

func meld(t *testing.T, h, other *fib.Heap, want int, err api.Errno) {
	t.Helper()
	if n, e := h.Meld(other); n != want || e != err {
		t.Fatalf("Meld = %d, %d, not %d, %d", n, e, want, err)
	}
}

// The chapter's examples.
func TestExamples(t *testing.T) {
	h := full(t, key(1, 2, 7), key(1, 3, 9), key(2, 4, 3))
	least(t, h, 1, key(1, 3, 9))
	pops(t, h, 1, 2)
	decrease(t, h, 0, key(1, 4, 7), api.OK)
	decrease(t, h, 0, key(1, 2, 7), api.ErrRange)
	other := full(t, key(1, 9, 0), key(5, 1, 0))
	meld(t, h, other, 3, api.OK)
	empty(t, other)
	pops(t, h, 3, 0, 4)
	empty(t, h)
}

// P8.1: an empty heap has nothing, and two of them do not hang on one another.
func TestNew(t *testing.T) {
	h, other := fib.New(), fib.New()
	empty(t, h)
	lacks(t, h, 0, 1, -1)
	put(t, h, key(1, 1, 1), 0)
	size(t, h, 1)
	empty(t, other)
	put(t, other, key(2, 1, 1), 0)
	holds(t, h, 0, key(1, 1, 1))
	holds(t, other, 0, key(2, 1, 1))
}

// P8.1: handles are 0, 1, 2, .., and go on behind Pop and Delete, an emptied heap too.
func TestHandlesGoOn(t *testing.T) {
	h := full(t, key(3, 1, 0), key(1, 1, 0), key(2, 1, 0))
	size(t, h, 3)
	pops(t, h, 1)
	put(t, h, key(1, 1, 0), 3)
	remove(t, h, 3, api.OK)
	put(t, h, key(1, 1, 0), 4)
	size(t, h, 3)
	lacks(t, h, 1, 3, 5)
	pops(t, h, 4, 2, 0)
	empty(t, h)
	put(t, h, key(1, 1, 0), 5)
	size(t, h, 1)
	lacks(t, h, 0, 1, 2, 3, 4, 6)
	holds(t, h, 5, key(1, 1, 0))
}

// P8.1: a ratio with a D of 0 is no key, whatever its N; nothing is changed.
func TestInsertForm(t *testing.T) {
	h := full(t, key(1, 2, 0))
	for _, k := range []fib.Key{{}, key(1, 0, 0), key(math.MaxUint64, 0, 5), key(0, 0, -1)} {
		if n, e := h.Insert(k); n != 0 || e != api.ErrForm {
			t.Fatalf("Insert(%v) = %d, %d", k, n, e)
		}
		size(t, h, 1)
		least(t, h, 0, key(1, 2, 0))
	}
	put(t, h, key(0, 1, 0), 1)
	pops(t, h, 1, 0)
}

// P8.1: 2^20 handles and no more, however many entries are left of them; ErrForm is asked ahead of ErrFull.
func TestInsertFull(t *testing.T) {
	h := fib.New()
	for i := range most {
		put(t, h, key(1, 1, int64(i)), i)
	}
	refuse := func() {
		t.Helper()
		if n, e := h.Insert(key(0, 1, 0)); n != 0 || e != api.ErrFull {
			t.Fatalf("one handle more: %d, %d", n, e)
		}
		if n, e := h.Insert(key(1, 0, 0)); n != 0 || e != api.ErrForm {
			t.Fatalf("a D of 0 on a full heap: %d, %d", n, e)
		}
	}
	refuse()
	size(t, h, most)
	pops(t, h, 0, 1)
	refuse()
	remove(t, h, most-1, api.OK)
	remove(t, h, 2, api.OK)
	refuse()
	for i := 3; i < most-1; i++ {
		if n, k, e := h.Pop(); n != i || k != key(1, 1, int64(i)) || e != api.OK {
			t.Fatalf("Pop = %d, %v, %d, not %d", n, k, e, i)
		}
	}
	empty(t, h)
	refuse()
	meld(t, h, fib.New(), most, api.OK)
	meld(t, h, full(t, key(1, 1, 1)), 0, api.ErrFull)
}

// P8.1: handles below 0, not yet given, and gone are none's.
func TestGetNone(t *testing.T) {
	h := full(t, key(1, 2, 7), key(1, 3, 9), key(2, 3, 3), key(3, 4, 1))
	pops(t, h, 1)
	remove(t, h, 2, api.OK)
	lacks(t, h, -1, math.MinInt, 1, 2, 4, 5, most, math.MaxInt)
	holds(t, h, 0, key(1, 2, 7))
	holds(t, h, 3, key(3, 4, 1))
}

// P8.1: a key stays as it came in, though its ratio be not lowest.
func TestKeyIsKept(t *testing.T) {
	h := full(t, key(2, 4, 3))
	holds(t, h, 0, key(2, 4, 3))
	least(t, h, 0, key(2, 4, 3))
	if n, k, e := h.Pop(); n != 0 || k != key(2, 4, 3) || e != api.OK {
		t.Fatal(n, k, e)
	}
}

// P8.2: the order is by ratios, whatever their parts; of like ratios by ties; of like keys by handles.
func TestOrder(t *testing.T) {
	h := full(t,
		key(1, 2, 5), // 0
		key(2, 4, 5), // 1: as 0
		key(3, 6, 4), // 2: the same ratio, a less tie
		key(1, 3, 9), // 3
		key(1, 2, 5), // 4: as 0
		key(0, 9, 9), // 5
		key(0, 1, 9), // 6: as 5
		key(7, 1, -9),
		key(50, 100, -1), // 8
	)
	least(t, h, 5, key(0, 9, 9))
	pops(t, h, 5, 6, 3, 8, 2, 0, 1, 4, 7)
	empty(t, h)
}

// P8.2: like keys come out by their handles, also where they come to be alike by Decrease and in trees.
func TestLikeKeys(t *testing.T) {
	const n = 100
	h := fib.New()
	for i := range n {
		put(t, h, key(uint64(n-i), 1, 0), i)
	}
	put(t, h, key(0, 1, 0), n)
	pops(t, h, n)
	for i := n - 1; i >= 0; i-- {
		decrease(t, h, (i*37)%n, key(2, 2, -1), api.OK)
	}
	least(t, h, 0, key(2, 2, -1))
	for i := range n {
		pops(t, h, i)
	}
}

// P8.2, P8.5: ratios and ties at the limits of their types are told apart exactly.
func TestLimits(t *testing.T) {
	const big = math.MaxUint64
	h := full(t,
		key(big, 1, math.MaxInt64),   // 0: the greatest of all
		key(big, 1, math.MinInt64),   // 1
		key(1, big, math.MaxInt64),   // 2
		key(1, big, math.MinInt64),   // 3
		key(0, big, 0),               // 4: 0
		key(big, big, 0),             // 5: 1
		key(big-1, big, 0),           // 6: less than 1
		key(big, big-1, 0),           // 7: more than 1
		key(big-2, big-1, 0),         // 8: less than 6
		key(1, big-1, math.MinInt64), // 9: more than 2
		key(0, 1, -1),                // 10: 0, a less tie
		key(big-1, 1, math.MaxInt64), // 11
		key(1, 1, 0),                 // 12: as 5
	)
	want := []int{10, 4, 3, 2, 9, 8, 6, 5, 12, 7, 11, 1, 0}
	least(t, h, 10, key(0, 1, -1))
	decrease(t, h, 6, key(big, big, 0), api.ErrRange)
	decrease(t, h, 8, key(big-1, big, 0), api.ErrRange)
	decrease(t, h, 1, key(big, 1, math.MinInt64+1), api.ErrRange)
	decrease(t, h, 1, key(big, 1, math.MinInt64), api.OK)
	decrease(t, h, 12, key(big, big, 0), api.OK)
	pops(t, h, want...)
	empty(t, h)
}

// P8.3: Decrease asks ErrNone, then ErrForm, then ErrRange, and changes nothing beside an error.
func TestDecreaseErrors(t *testing.T) {
	h := full(t, key(1, 2, 7), key(1, 3, 9), key(2, 3, 3))
	pops(t, h, 1)
	remove(t, h, 2, api.OK)
	for _, handle := range []int{-1, math.MinInt, 1, 2, 3, most, math.MaxInt} {
		decrease(t, h, handle, key(0, 1, 0), api.ErrNone)
		decrease(t, h, handle, key(0, 0, 0), api.ErrNone)
	}
	decrease(t, h, 0, key(0, 0, 0), api.ErrForm)
	decrease(t, h, 0, key(9, 0, 9), api.ErrForm)
	decrease(t, h, 0, key(1, 2, 8), api.ErrRange)
	decrease(t, h, 0, key(2, 4, 8), api.ErrRange)
	decrease(t, h, 0, key(2, 3, 1), api.ErrRange)
	size(t, h, 1)
	least(t, h, 0, key(1, 2, 7))
	pops(t, h, 0)
	decrease(t, h, 0, key(0, 1, 0), api.ErrNone)
}

// P8.3: the key is what was handed in: the same, one as great in other parts, one with a less tie, one with a less ratio and a greater tie.
func TestDecrease(t *testing.T) {
	h := full(t, key(1, 2, 7), key(1, 3, 9), key(2, 3, 3))
	for _, k := range []fib.Key{key(2, 3, 3), key(4, 6, 3), key(2, 3, 3), key(4, 6, 2), key(1, 2, 99), key(1, 2, 7)} {
		decrease(t, h, 2, k, api.OK)
		holds(t, h, 2, k)
		least(t, h, 1, key(1, 3, 9))
	}
	decrease(t, h, 2, key(1, 3, 9), api.OK)
	least(t, h, 1, key(1, 3, 9))
	decrease(t, h, 2, key(3, 9, 8), api.OK)
	least(t, h, 2, key(3, 9, 8))
	decrease(t, h, 0, key(0, 1, 0), api.OK)
	least(t, h, 0, key(0, 1, 0))
	decrease(t, h, 0, key(0, 5, 0), api.OK)
	size(t, h, 3)
	pops(t, h, 0, 2, 1)
}

// P8.3: behind a Pop entries stand below others: each of them is made less, whoever is above or below it, again and again.
func TestDecreaseInTrees(t *testing.T) {
	const n = 64
	for first := range n {
		h := fib.New()
		for i := range n {
			put(t, h, key(uint64(1000+i), 1, 0), i)
		}
		put(t, h, key(0, 1, 0), n)
		pops(t, h, n)
		for round := range 5 {
			at := (first + round*29) % n
			k := key(uint64(900-round*100), 1, 0)
			decrease(t, h, at, k, api.OK)
			least(t, h, at, k)
			decrease(t, h, at, key(uint64(901-round*100), 1, 0), api.ErrRange)
			if round%2 == 1 {
				pops(t, h, at)
			}
		}
		size(t, h, n-2)
		ordered(t, h)
	}
}

// ordered pops all there is, and asks that keys and handles rise.
func ordered(t *testing.T, h *fib.Heap) {
	t.Helper()
	lastHandle, lastKey := -1, fib.Key{Ratio: ratio.Ratio{D: 1}, Tie: math.MinInt64}
	for h.Len() > 0 {
		handle, k, e := h.Pop()
		c, _ := ratio.Cmp(lastKey.Ratio, k.Ratio)
		rises := c < 0 || c == 0 && (lastKey.Tie < k.Tie || lastKey.Tie == k.Tie && lastHandle < handle)
		if e != api.OK || !rises {
			t.Fatalf("%d, %v behind %d, %v (%d)", handle, k, lastHandle, lastKey, e)
		}
		lastHandle, lastKey = handle, k
	}
	empty(t, h)
}

// P8.3: Delete of a handle that no entry has.
func TestDeleteNone(t *testing.T) {
	h := full(t, key(1, 2, 7), key(1, 3, 9), key(2, 3, 3))
	pops(t, h, 1)
	remove(t, h, 2, api.OK)
	for _, handle := range []int{-1, math.MinInt, 1, 2, 3, most, math.MaxInt} {
		remove(t, h, handle, api.ErrNone)
	}
	size(t, h, 1)
	least(t, h, 0, key(1, 2, 7))
}

// P8.3: Delete of the least entry, of another, and of the last one.
func TestDelete(t *testing.T) {
	h := full(t, key(4, 1, 0), key(2, 1, 0), key(3, 1, 0), key(1, 1, 0))
	remove(t, h, 3, api.OK)
	lacks(t, h, 3)
	size(t, h, 3)
	least(t, h, 1, key(2, 1, 0))
	remove(t, h, 2, api.OK)
	lacks(t, h, 2)
	size(t, h, 2)
	least(t, h, 1, key(2, 1, 0))
	remove(t, h, 1, api.OK)
	least(t, h, 0, key(4, 1, 0))
	remove(t, h, 0, api.OK)
	lacks(t, h, 0, 1, 2, 3)
	empty(t, h)
	put(t, h, key(1, 1, 1), 4)
}

// P8.3: each entry of trees is deleted once, and all others are left as they were.
func TestDeleteInTrees(t *testing.T) {
	const n = 64
	for first := range n {
		h := fib.New()
		for i := range n {
			put(t, h, key(uint64(i), 7, 0), i)
		}
		remove(t, h, 0, api.OK)
		gone := map[int]int{0: 1}
		for round := range 9 {
			at := (first + round*13) % n
			want := api.OK
			if gone[at] > 0 {
				want = api.ErrNone
			}
			remove(t, h, at, want)
			gone[at]++
		}
		size(t, h, n-len(gone))
		for i := range n {
			if gone[i] == 0 {
				pops(t, h, i)
			} else {
				lacks(t, h, i)
			}
		}
		empty(t, h)
	}
}

// P8.5: a nil heap is empty: Insert and Meld answer ErrState, all else ErrNone, Len 0.
func TestNil(t *testing.T) {
	var h *fib.Heap
	empty(t, h)
	for _, k := range []fib.Key{key(1, 1, 1), key(1, 0, 1)} {
		if n, e := h.Insert(k); n != 0 || e != api.ErrState {
			t.Error("Insert:", n, e)
		}
		for _, handle := range []int{-1, 0, 1, most} {
			decrease(t, h, handle, k, api.ErrNone)
		}
	}
	for _, handle := range []int{-1, 0, 1, most} {
		lacks(t, h, handle)
		remove(t, h, handle, api.ErrNone)
	}
	meld(t, h, nil, 0, api.ErrState)
	other := full(t, key(1, 2, 3))
	meld(t, h, other, 0, api.ErrState)
	size(t, other, 1)
	holds(t, other, 0, key(1, 2, 3))
	empty(t, h)
}

// P8.5: the zero heap is as New's, at every call that may be its first.
func TestZero(t *testing.T) {
	var a, b, c, d fib.Heap
	empty(t, &a)
	lacks(t, &a, 0)
	decrease(t, &a, 0, key(1, 1, 1), api.ErrNone)
	remove(t, &a, 0, api.ErrNone)
	meld(t, &a, &b, 0, api.OK)
	put(t, &b, key(1, 2, 3), 0)
	put(t, &b, key(1, 3, 3), 1)
	meld(t, &c, &b, 0, api.OK)
	pops(t, &c, 1, 0)
	meld(t, &c, &d, 2, api.OK)
	empty(t, &d)
	put(t, &d, key(1, 1, 1), 0)
	meld(t, &d, &a, 1, api.OK)
	pops(t, &d, 0)
}
