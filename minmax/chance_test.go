package minmax_test

import (
	"math"
	"math/rand"
	"slices"
	"strconv"
	"testing"

	"drover/api"
	"drover/minmax"
)

// plain is a heap as the chapter says it: a list of entries as they came in, and how many handles there have been.
type plain struct {
	given int
	list  []item
}

type item struct {
	handle int
	key    minmax.Key
}

// order is that in which entries are popped from below.
func order(a, b item) int {
	switch x, y := a.key, b.key; {
	case x[0] != y[0]:
		return sign(x[0] < y[0])
	case x[1] != y[1]:
		return sign(x[1] < y[1])
	case x[2] != y[2]:
		return sign(x[2] < y[2])
	case a.handle != b.handle:
		return sign(a.handle < b.handle)
	}
	return 0
}

func sign(less bool) int {
	if less {
		return -1
	}
	return 1
}

func (p *plain) at(handle int) int {
	return slices.IndexFunc(p.list, func(i item) bool { return i.handle == handle })
}

func (p *plain) insert(k minmax.Key) int {
	p.list = append(p.list, item{p.given, k})
	p.given++
	return p.given - 1
}

func (p *plain) get(handle int) (minmax.Key, api.Errno) {
	if i := p.at(handle); i >= 0 {
		return p.list[i].key, api.OK
	}
	return minmax.Key{}, api.ErrNone
}

func (p *plain) min() (int, minmax.Key, api.Errno) {
	if len(p.list) == 0 {
		return 0, minmax.Key{}, api.ErrNone
	}
	i := slices.MinFunc(p.list, order)
	return i.handle, i.key, api.OK
}

func (p *plain) max() (int, minmax.Key, api.Errno) {
	if len(p.list) == 0 {
		return 0, minmax.Key{}, api.ErrNone
	}
	i := slices.MaxFunc(p.list, order)
	return i.handle, i.key, api.OK
}

func (p *plain) update(handle int, k minmax.Key) api.Errno {
	i := p.at(handle)
	if i < 0 {
		return api.ErrNone
	}
	p.list[i].key = k
	return api.OK
}

func (p *plain) drop(handle int) api.Errno {
	i := p.at(handle)
	if i < 0 {
		return api.ErrNone
	}
	p.list = slices.Delete(p.list, i, i+1)
	return api.OK
}

// alike asks all that can be asked of h without changing it, both ends and each entry among it.
func alike(t *testing.T, h *minmax.Heap, p *plain) {
	t.Helper()
	size(t, h, len(p.list))
	n, k, e := h.Min()
	if n2, k2, e2 := p.min(); n != n2 || k != k2 || e != e2 {
		t.Fatalf("Min = %d, %v, %d, not %d, %v, %d", n, k, e, n2, k2, e2)
	}
	n, k, e = h.Max()
	if n2, k2, e2 := p.max(); n != n2 || k != k2 || e != e2 {
		t.Fatalf("Max = %d, %v, %d, not %d, %v, %d", n, k, e, n2, k2, e2)
	}
	for handle := -1; handle <= p.given; handle++ {
		k, e := h.Get(handle)
		if k2, e2 := p.get(handle); k != k2 || e != e2 {
			t.Fatalf("Get(%d) = %v, %d, not %v, %d", handle, k, e, k2, e2)
		}
	}
}

// some is a key by chance: few numbers, so that like keys are often met, and now and then one at the limits.
func some(r *rand.Rand, wide int) minmax.Key {
	k := minmax.Key{int64(r.Intn(wide)), int64(r.Intn(3) - 1), int64(r.Intn(3) - 1)}
	if r.Intn(20) == 0 {
		k[r.Intn(3)] = [...]int64{math.MinInt64, math.MaxInt64}[r.Intn(2)]
	}
	return k
}

// handle is mostly one of an entry's, else one that may be gone or was never there.
func handle(r *rand.Rand, p *plain) int {
	if len(p.list) > 0 && r.Intn(10) > 0 {
		return p.list[r.Intn(len(p.list))].handle
	}
	return r.Intn(p.given+4) - 2
}

// step does one call by chance on a heap and its list, and asks that both answer the same.
func step(t *testing.T, r *rand.Rand, h *minmax.Heap, p *plain, calls string, wide int) {
	t.Helper()
	switch c := calls[r.Intn(len(calls))]; c {
	case 'i':
		k := some(r, wide)
		put(t, h, k, p.insert(k))
	case '<':
		n, k, e := h.PopMin()
		n2, k2, e2 := p.min()
		p.drop(n2)
		if n != n2 || k != k2 || e != e2 {
			t.Fatalf("PopMin = %d, %v, %d, not %d, %v, %d", n, k, e, n2, k2, e2)
		}
	case '>':
		n, k, e := h.PopMax()
		n2, k2, e2 := p.max()
		p.drop(n2)
		if n != n2 || k != k2 || e != e2 {
			t.Fatalf("PopMax = %d, %v, %d, not %d, %v, %d", n, k, e, n2, k2, e2)
		}
	case 'u':
		at, k := handle(r, p), some(r, wide)
		update(t, h, at, k, p.update(at, k))
	default:
		at := handle(r, p)
		remove(t, h, at, p.drop(at))
	}
}

// P9.1 to P9.4: runs of calls by chance are held against a plain list at each call.
func TestChance(t *testing.T) {
	mixes := []string{"iii<>uur", "iiiii<>uuuuur", "ii<>", "iir", "iiuuuu<", "iiuuuu>", "ii<<>>uurr"}
	for seed := range 140 {
		t.Run(strconv.Itoa(seed), func(t *testing.T) {
			r := rand.New(rand.NewSource(int64(seed)))
			h, p := minmax.New(), &plain{}
			mix := mixes[seed%len(mixes)]
			wide := [...]int{1, 4, 1000}[seed/len(mixes)%3]
			for range 400 {
				step(t, r, h, p, mix, wide)
				alike(t, h, p)
			}
			for len(p.list) > 0 {
				step(t, r, h, p, "<>ur", wide)
				alike(t, h, p)
			}
			empty(t, h)
		})
	}
}

// keyed is a heap and its list, of n keys by the digits of code to the base wide.
func keyed(t *testing.T, n, code, wide int) (*minmax.Heap, *plain) {
	t.Helper()
	h, p := minmax.New(), &plain{}
	for range n {
		k := minmax.Key{0, int64(code % wide * 2)}
		put(t, h, k, p.insert(k))
		code /= wide
	}
	return h, p
}

// P9.1 to P9.4: each heap of at most five entries with few keys is asked for each call; what is left comes out as of a plain list.
func TestSmall(t *testing.T) {
	const wide = 3
	codes := 1
	for n := range 6 {
		for code := range codes {
			calls := 3 + n + n*(2*wide+1)
			for call := range calls {
				h, p := keyed(t, n, code, wide)
				change(t, h, p, call)
				alike(t, h, p)
				drain(t, h, p, call%2 == 0)
			}
		}
		codes *= wide
	}
}

// change does the call of that number: PopMin, PopMax, Insert, Remove of each handle, Update of each to each key that is there, beside one, or beyond all.
func change(t *testing.T, h *minmax.Heap, p *plain, call int) {
	t.Helper()
	n := len(p.list)
	switch {
	case call == 0 && n > 0:
		handle, _, _ := p.min()
		popsMin(t, h, handle)
		p.drop(handle)
	case call == 1 && n > 0:
		handle, _, _ := p.max()
		popsMax(t, h, handle)
		p.drop(handle)
	case call < 2:
		empty(t, h)
	case call == 2:
		put(t, h, minmax.Key{0, 1}, p.insert(minmax.Key{0, 1}))
	case call < 3+n:
		remove(t, h, call-3, p.drop(call-3))
	default:
		call -= 3 + n
		handle, k := call%n, minmax.Key{0, int64(call/n - 1)}
		update(t, h, handle, k, p.update(handle, k))
	}
}

// drain pops all there is from one side.
func drain(t *testing.T, h *minmax.Heap, p *plain, below bool) {
	t.Helper()
	slices.SortFunc(p.list, order)
	for len(p.list) > 0 {
		last := len(p.list) - 1
		if below {
			popsMin(t, h, p.list[0].handle)
			p.list = p.list[1:]
		} else {
			popsMax(t, h, p.list[last].handle)
			p.list = p.list[:last]
		}
	}
	empty(t, h)
}

// P9.4: keys put in by chance come out in their order, each once: from below, from above, and in turns from both ends.
func TestSorts(t *testing.T) {
	r := rand.New(rand.NewSource(9))
	for _, n := range []int{1, 2, 3, 4, 5, 10, 1000, 1001, 50000} {
		for way := range 4 {
			h, p := minmax.New(), &plain{}
			for range n {
				k := minmax.Key{int64(r.Intn(n)), int64(r.Intn(2)), int64(r.Intn(2))}
				put(t, h, k, p.insert(k))
			}
			slices.SortFunc(p.list, order)
			for low, high := 0, n-1; low <= high; {
				below := [...]bool{true, false, (low+high)%2 == 0, r.Intn(2) == 0}[way]
				if below {
					popsMin(t, h, p.list[low].handle)
					low++
				} else {
					popsMax(t, h, p.list[high].handle)
					high--
				}
			}
			empty(t, h)
		}
	}
}
