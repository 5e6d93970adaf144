package minmax_test

import (
	"testing"

	"drover/api"
	"drover/minmax"
)

// P9.1 to P9.4: a heap of one entry: it is the least and the greatest one.
func TestOne(t *testing.T) {
	fresh := func() *minmax.Heap { return full(t, minmax.Key{5, 6, 7}) }
	h := fresh()
	size(t, h, 1)
	holds(t, h, 0, minmax.Key{5, 6, 7})
	ends(t, h, 0, 0)
	for _, k := range []minmax.Key{{5, 6, 7}, {4}, {9}, {}} {
		update(t, h, 0, k, api.OK)
		ends(t, h, 0, 0)
		size(t, h, 1)
	}
	remove(t, h, 0, api.OK)
	empty(t, h)
	h = fresh()
	popsMin(t, h, 0)
	empty(t, h)
	h = fresh()
	popsMax(t, h, 0)
	empty(t, h)
	put(t, h, minmax.Key{1}, 1)
	ends(t, h, 1, 1)
}

// P9.1 to P9.4: a heap of two entries, put in either way round.
func TestTwo(t *testing.T) {
	for low := range 2 {
		high := 1 - low
		fresh := func() *minmax.Heap {
			return full(t, minmax.Key{0, int64(low)}, minmax.Key{0, int64(high)})
		}
		ends(t, fresh(), low, high)
		popsMin(t, fresh(), low, high)
		popsMax(t, fresh(), high, low)
		for gone := range 2 {
			h := fresh()
			remove(t, h, gone, api.OK)
			ends(t, h, 1-gone, 1-gone)
			put(t, h, minmax.Key{2}, 2)
			ends(t, h, 1-gone, 2)
		}
		h := fresh()
		update(t, h, low, minmax.Key{1}, api.OK)
		ends(t, h, high, low)
		h = fresh()
		update(t, h, high, minmax.Key{-1}, api.OK)
		ends(t, h, high, low)
		update(t, h, high, minmax.Key{0, int64(low)}, api.OK)
		ends(t, h, low, high)
	}
}

// P9.1 to P9.4: a heap of three entries, put in all ways round: handles tells who has the least key, the middle one, the greatest.
func TestThree(t *testing.T) {
	for _, handles := range [][3]int{{0, 1, 2}, {0, 2, 1}, {1, 0, 2}, {1, 2, 0}, {2, 0, 1}, {2, 1, 0}} {
		low, mid, high := handles[0], handles[1], handles[2]
		fresh := func() *minmax.Heap {
			var keys [3]minmax.Key
			for i, handle := range handles {
				keys[handle] = minmax.Key{0, 0, int64(10 * i)}
			}
			return full(t, keys[:]...)
		}
		popsMin(t, fresh(), low, mid, high)
		popsMax(t, fresh(), high, mid, low)
		h := fresh()
		ends(t, h, low, high)
		remove(t, h, low, api.OK)
		ends(t, h, mid, high)
		h = fresh()
		remove(t, h, mid, api.OK)
		ends(t, h, low, high)
		h = fresh()
		remove(t, h, high, api.OK)
		ends(t, h, low, mid)
		h = fresh()
		update(t, h, low, minmax.Key{0, 0, 15}, api.OK)
		ends(t, h, mid, high)
		update(t, h, low, minmax.Key{0, 0, 25}, api.OK)
		popsMin(t, h, mid, high, low)
		h = fresh()
		update(t, h, mid, minmax.Key{0, 0, 25}, api.OK)
		ends(t, h, low, mid)
		update(t, h, mid, minmax.Key{0, 0, -5}, api.OK)
		ends(t, h, mid, high)
		h = fresh()
		update(t, h, high, minmax.Key{0, 0, -5}, api.OK)
		popsMax(t, h, mid, low, high)
	}
}

// nine is a heap whose keys are 10, 20, .., put in so that none stands where it came in; its handles by rising keys are those that byKey lists.
func nine(t *testing.T) *minmax.Heap {
	t.Helper()
	return full(t, minmax.Key{50}, minmax.Key{20}, minmax.Key{90}, minmax.Key{10}, minmax.Key{70}, minmax.Key{30}, minmax.Key{80}, minmax.Key{60}, minmax.Key{40})
}

var byKey = [...]int{3, 1, 5, 8, 0, 7, 4, 6, 2}

// P9.3: Update to the same key, to a less one and to a greater one, of the least entry, of the greatest one, of each other, and of the one that came in last.
func TestUpdate(t *testing.T) {
	for from, handle := range byKey {
		for to := range len(byKey) + 1 {
			// Between the keys 10*to and 10*to+10: so many of the others are below it.
			below := to
			if from < to {
				below--
			}
			var want []int
			for _, other := range byKey {
				if other != handle {
					want = append(want, other)
				}
			}
			want = append(want[:below], append([]int{handle}, want[below:]...)...)
			h := nine(t)
			update(t, h, handle, minmax.Key{int64(10*to + 5)}, api.OK)
			size(t, h, 9)
			ends(t, h, want[0], want[8])
			popsMin(t, h, want...)
			empty(t, h)
			h = nine(t)
			update(t, h, handle, minmax.Key{int64(10*to + 5)}, api.OK)
			for i := range want {
				popsMax(t, h, want[8-i])
			}
		}
		h := nine(t)
		update(t, h, handle, minmax.Key{int64(10*from + 10)}, api.OK)
		ends(t, h, byKey[0], byKey[8])
		popsMin(t, h, byKey[:]...)
	}
}

// P9.3: Update to another's key: that other is the first of both, or not, by their handles.
func TestUpdateToAnothers(t *testing.T) {
	for _, handle := range byKey {
		for _, other := range byKey {
			h := nine(t)
			k, _ := h.Get(other)
			update(t, h, handle, k, api.OK)
			holds(t, h, other, k)
			for h.Len() > 0 {
				n, k2, _ := h.PopMin()
				if k2 != k {
					continue
				}
				if n != min(handle, other) {
					t.Fatalf("%d and %d have one key, and %d comes first", handle, other, n)
				}
				if handle != other {
					popsMin(t, h, max(handle, other))
				}
			}
		}
	}
}

// P9.3: Remove of the least entry, of the greatest one, of each other, and of the one that came in last; then all others, one behind the other.
func TestRemove(t *testing.T) {
	for i, handle := range byKey {
		var left []int
		for _, other := range byKey {
			if other != handle {
				left = append(left, other)
			}
		}
		h := nine(t)
		remove(t, h, handle, api.OK)
		remove(t, h, handle, api.ErrNone)
		ends(t, h, left[0], left[7])
		popsMin(t, h, left...)
		h = nine(t)
		remove(t, h, handle, api.OK)
		for j := range left {
			popsMax(t, h, left[7-j])
		}
		h = nine(t)
		for j := range byKey {
			remove(t, h, byKey[(i+j*4)%9], api.OK)
		}
		empty(t, h)
		put(t, h, minmax.Key{1}, 9)
	}
}

// P9.3: Update and Remove leave all other entries with their keys.
func TestOthersStay(t *testing.T) {
	h, p := nine(t), &plain{}
	for _, x := range []int64{50, 20, 90, 10, 70, 30, 80, 60, 40} {
		p.insert(minmax.Key{x})
	}
	for i, x := range []int64{95, 5, 55, 15, 85} {
		h.Update(i, minmax.Key{x})
		p.update(i, minmax.Key{x})
		h.Remove(8 - i)
		p.drop(8 - i)
		alike(t, h, p)
	}
}
