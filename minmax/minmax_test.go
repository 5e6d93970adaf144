package minmax_test

import (
	"math"
	"testing"

	"drover/api"
	"drover/minmax"
)

const most = 1 << 20 // handles of one heap

// full is a heap of keys, which has them by the handles 0, 1, 2, ..
func full(t *testing.T, keys ...minmax.Key) *minmax.Heap {
	t.Helper()
	h := minmax.New()
	for i, k := range keys {
		put(t, h, k, i)
	}
	return h
}

func put(t *testing.T, h *minmax.Heap, k minmax.Key, want int) {
	t.Helper()
	if n, e := h.Insert(k); n != want || e != api.OK {
		t.Fatalf("Insert(%v) = %d, %d, not %d", k, n, e, want)
	}
}

func holds(t *testing.T, h *minmax.Heap, handle int, want minmax.Key) {
	t.Helper()
	if k, e := h.Get(handle); k != want || e != api.OK {
		t.Fatalf("Get(%d) = %v, %d, not %v", handle, k, e, want)
	}
}

func lacks(t *testing.T, h *minmax.Heap, handles ...int) {
	t.Helper()
	for _, handle := range handles {
		if k, e := h.Get(handle); k != (minmax.Key{}) || e != api.ErrNone {
			t.Fatalf("Get(%d) = %v, %d, not ErrNone", handle, k, e)
		}
	}
}

func size(t *testing.T, h *minmax.Heap, want int) {
	t.Helper()
	if n := h.Len(); n != want {
		t.Fatalf("Len = %d, not %d", n, want)
	}
}

func least(t *testing.T, h *minmax.Heap, handle int, want minmax.Key) {
	t.Helper()
	if n, k, e := h.Min(); n != handle || k != want || e != api.OK {
		t.Fatalf("Min = %d, %v, %d, not %d, %v", n, k, e, handle, want)
	}
}

func greatest(t *testing.T, h *minmax.Heap, handle int, want minmax.Key) {
	t.Helper()
	if n, k, e := h.Max(); n != handle || k != want || e != api.OK {
		t.Fatalf("Max = %d, %v, %d, not %d, %v", n, k, e, handle, want)
	}
}

// ends asks which entries are the least and the greatest one.
func ends(t *testing.T, h *minmax.Heap, low, high int) {
	t.Helper()
	k, _ := h.Get(low)
	least(t, h, low, k)
	k, _ = h.Get(high)
	greatest(t, h, high, k)
}

// popsMin pops one entry a handle from below, and asks Min ahead of each and Len and Get behind it.
func popsMin(t *testing.T, h *minmax.Heap, handles ...int) {
	t.Helper()
	for _, handle := range handles {
		left := h.Len()
		want, _ := h.Get(handle)
		least(t, h, handle, want)
		if n, k, e := h.PopMin(); n != handle || k != want || e != api.OK {
			t.Fatalf("PopMin = %d, %v, %d, not %d, %v", n, k, e, handle, want)
		}
		size(t, h, left-1)
		lacks(t, h, handle)
	}
}

// popsMax is popsMin from above.
func popsMax(t *testing.T, h *minmax.Heap, handles ...int) {
	t.Helper()
	for _, handle := range handles {
		left := h.Len()
		want, _ := h.Get(handle)
		greatest(t, h, handle, want)
		if n, k, e := h.PopMax(); n != handle || k != want || e != api.OK {
			t.Fatalf("PopMax = %d, %v, %d, not %d, %v", n, k, e, handle, want)
		}
		size(t, h, left-1)
		lacks(t, h, handle)
	}
}

// empty asks every call that an empty heap refuses.
func empty(t *testing.T, h *minmax.Heap) {
	t.Helper()
	size(t, h, 0)
	calls := []func() (int, minmax.Key, api.Errno){h.Min, h.Max, h.PopMin, h.PopMax}
	for i, call := range calls {
		if n, k, e := call(); n != 0 || k != (minmax.Key{}) || e != api.ErrNone {
			t.Fatalf("call %d of Min, Max, PopMin, PopMax on an empty heap: %d, %v, %d", i, n, k, e)
		}
	}
	for _, handle := range []int{math.MinInt, -1, 0, 1, 2, most, math.MaxInt} {
		lacks(t, h, handle)
		update(t, h, handle, minmax.Key{1}, api.ErrNone)
		remove(t, h, handle, api.ErrNone)
	}
	size(t, h, 0)
}

func update(t *testing.T, h *minmax.Heap, handle int, k minmax.Key, want api.Errno) {
	t.Helper()
	if e := h.Update(handle, k); e != want {
		t.Fatalf("Update(%d, %v) = %d, not %d", handle, k, e, want)
	}
	if want == api.OK {
		holds(t, h, handle, k)
	}
}

func remove(t *testing.T, h *minmax.Heap, handle int, want api.Errno) {
	t.Helper()
	left := h.Len()
	if e := h.Remove(handle); e != want {
		t.Fatalf("Remove(%d) = %d, not %d", handle, e, want)
	}
	if want == api.OK {
		left--
	}
	size(t, h, left)
	lacks(t, h, handle)
}

// The chapter's examples.
func TestExamples(t *testing.T) {
	h := full(t, minmax.Key{5}, minmax.Key{1}, minmax.Key{5})
	least(t, h, 1, minmax.Key{1})
	greatest(t, h, 2, minmax.Key{5})
	popsMax(t, h, 2, 0)
	update(t, h, 1, minmax.Key{9}, api.OK)
	greatest(t, h, 1, minmax.Key{9})
	remove(t, h, 0, api.ErrNone)
}

// P9.1: an empty heap has nothing, and two of them do not hang on one another.
func TestNew(t *testing.T) {
	h, other := minmax.New(), minmax.New()
	empty(t, h)
	put(t, h, minmax.Key{1, 2, 3}, 0)
	size(t, h, 1)
	empty(t, other)
	put(t, other, minmax.Key{4, 5, 6}, 0)
	holds(t, h, 0, minmax.Key{1, 2, 3})
	holds(t, other, 0, minmax.Key{4, 5, 6})
}

// P9.1: handles are 0, 1, 2, .., and go on behind PopMin, PopMax and Remove, in an emptied heap too.
func TestHandlesGoOn(t *testing.T) {
	h := full(t, minmax.Key{3}, minmax.Key{1}, minmax.Key{2})
	popsMin(t, h, 1)
	put(t, h, minmax.Key{1}, 3)
	popsMax(t, h, 0)
	put(t, h, minmax.Key{3}, 4)
	remove(t, h, 4, api.OK)
	put(t, h, minmax.Key{0}, 5)
	size(t, h, 3)
	lacks(t, h, 0, 1, 4, 6)
	popsMin(t, h, 5, 3, 2)
	empty(t, h)
	put(t, h, minmax.Key{7}, 6)
	popsMax(t, h, 6)
	put(t, h, minmax.Key{8}, 7)
	remove(t, h, 7, api.OK)
	empty(t, h)
	put(t, h, minmax.Key{9}, 8)
	lacks(t, h, 0, 1, 2, 3, 4, 5, 6, 7, 9)
	ends(t, h, 8, 8)
}

// P9.1: 2^20 handles and no more, however many entries are left of them.
func TestInsertFull(t *testing.T) {
	h := minmax.New()
	for i := range most {
		put(t, h, minmax.Key{1, 1, int64(i)}, i)
	}
	refuse := func() {
		t.Helper()
		if n, e := h.Insert(minmax.Key{2}); n != 0 || e != api.ErrFull {
			t.Fatalf("one handle more: %d, %d", n, e)
		}
	}
	refuse()
	size(t, h, most)
	lacks(t, h, most, most+1)
	holds(t, h, most-1, minmax.Key{1, 1, most - 1})
	popsMin(t, h, 0, 1)
	refuse()
	popsMax(t, h, most-1, most-2)
	refuse()
	remove(t, h, 2, api.OK)
	refuse()
	update(t, h, 3, minmax.Key{9}, api.OK)
	popsMax(t, h, 3)
	for i, j := 4, most-3; i < j; i, j = i+1, j-1 {
		n, _, e := h.PopMin()
		n2, _, e2 := h.PopMax()
		if n != i || e != api.OK || n2 != j || e2 != api.OK {
			t.Fatalf("PopMin = %d, %d, PopMax = %d, %d, not %d, %d", n, e, n2, e2, i, j)
		}
	}
	empty(t, h)
	refuse()
}

// P9.1, P9.3: handles below 0, not yet given, and gone are none's, and asking for them changes nothing.
func TestNoSuchHandle(t *testing.T) {
	h := full(t, minmax.Key{4}, minmax.Key{1}, minmax.Key{9}, minmax.Key{5}, minmax.Key{6})
	popsMin(t, h, 1)
	popsMax(t, h, 2)
	remove(t, h, 3, api.OK)
	for _, handle := range []int{math.MinInt, -2, -1, 1, 2, 3, 5, 6, most, math.MaxInt} {
		lacks(t, h, handle)
		update(t, h, handle, minmax.Key{0}, api.ErrNone)
		update(t, h, handle, minmax.Key{10}, api.ErrNone)
		remove(t, h, handle, api.ErrNone)
		lacks(t, h, handle)
	}
	size(t, h, 2)
	holds(t, h, 0, minmax.Key{4})
	holds(t, h, 4, minmax.Key{6})
	ends(t, h, 0, 4)
	put(t, h, minmax.Key{5}, 5)
	popsMin(t, h, 0, 5, 4)
}

// P9.2: keys are ordered by the first number at which they are unlike, whatever stands behind it.
func TestOrder(t *testing.T) {
	rising := []minmax.Key{
		{-2, 9, 9}, {-1, -9, 9}, {-1, 0, 0}, {0, -1, 9}, {0, 0, -1}, {0, 0, 0}, {0, 0, 1}, {0, 1, -9}, {0, 1, 0}, {1, -9, -9}, {1, 0, 0}, {2, -9, -9},
	}
	for i, less := range rising {
		for _, more := range rising[i+1:] {
			for _, h := range []*minmax.Heap{full(t, less, more), full(t, more, less)} {
				if _, k, e := h.Min(); k != less || e != api.OK {
					t.Fatalf("Min of %v and %v = %v, %d", less, more, k, e)
				}
				if _, k, e := h.Max(); k != more || e != api.OK {
					t.Fatalf("Max of %v and %v = %v, %d", less, more, k, e)
				}
			}
		}
	}
	popsMin(t, full(t, rising...), 0, 1, 2, 3, 4, 5, 6, 7, 8, 9, 10, 11)
	popsMax(t, full(t, rising...), 11, 10, 9, 8, 7, 6, 5, 4, 3, 2, 1, 0)
}

// P9.2: numbers at the limits of their type are told apart, at each of the three places.
func TestLimits(t *testing.T) {
	rising := []int64{math.MinInt64, math.MinInt64 + 1, -1, 0, 1, math.MaxInt64 - 1, math.MaxInt64}
	puts := []int{3, 6, 0, 5, 2, 4, 1}
	for place := range 3 {
		fresh := func() *minmax.Heap {
			h := minmax.New()
			for i, at := range puts {
				k := minmax.Key{7, 7, 7}
				k[place] = rising[at]
				put(t, h, k, i)
			}
			return h
		}
		popsMin(t, fresh(), 2, 6, 4, 0, 5, 3, 1)
		popsMax(t, fresh(), 1, 3, 5, 0, 4, 6, 2)
	}
	const lo, hi = math.MinInt64, math.MaxInt64
	h := full(t, minmax.Key{lo, hi, hi}, minmax.Key{hi, lo, lo}, minmax.Key{lo, lo, hi}, minmax.Key{hi, hi, lo}, minmax.Key{lo, lo, lo}, minmax.Key{hi, hi, hi})
	ends(t, h, 4, 5)
	popsMin(t, h, 4, 2, 0, 1, 3, 5)
}

// P9.2: of like keys the least handle comes out first from below, and the greatest first from above.
func TestLikeKeys(t *testing.T) {
	const n = 40
	k := minmax.Key{3, 3, 3}
	for rounds := range n {
		h := minmax.New()
		for i := range n {
			put(t, h, k, i)
		}
		for i := range rounds {
			popsMin(t, h, i)
		}
		for i := n - 1; i >= rounds; i-- {
			ends(t, h, rounds, i)
			popsMax(t, h, i)
		}
		empty(t, h)
	}
}

// P9.2, P9.3: keys that come to be alike by Update are told apart by their handles, in whatever order they were made so.
func TestLikeByUpdate(t *testing.T) {
	const n = 40
	fresh := func(step int) *minmax.Heap {
		h := minmax.New()
		for i := range n {
			put(t, h, minmax.Key{int64(i * 7 % n)}, i)
		}
		for i := range n {
			update(t, h, i*step%n, minmax.Key{20, 1}, api.OK)
		}
		ends(t, h, 0, n-1)
		return h
	}
	for _, step := range []int{1, 3, 7, 9, 39} {
		h := fresh(step)
		for i := range n {
			popsMin(t, h, i)
		}
		h = fresh(step)
		for i := range n {
			popsMax(t, h, n-1-i)
		}
	}
}

// P9.4: a nil heap is empty, and nothing can be put into it.
func TestNil(t *testing.T) {
	var h *minmax.Heap
	empty(t, h)
	if n, e := h.Insert(minmax.Key{1}); n != 0 || e != api.ErrState {
		t.Fatalf("Insert on nil = %d, %d", n, e)
	}
	empty(t, h)
}

// P9.4: the zero heap is as New's.
func TestZero(t *testing.T) {
	var h minmax.Heap
	empty(t, &h)
	put(t, &h, minmax.Key{2}, 0)
	put(t, &h, minmax.Key{1}, 1)
	put(t, &h, minmax.Key{3}, 2)
	ends(t, &h, 1, 2)
	update(t, &h, 0, minmax.Key{4}, api.OK)
	remove(t, &h, 2, api.OK)
	popsMax(t, &h, 0)
	popsMin(t, &h, 1)
	empty(t, &h)
	put(t, &h, minmax.Key{1}, 3)
}
