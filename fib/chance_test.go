package fib_test

import (
	"math"
	"math/big"
	"math/rand"
	"slices"
	"testing"

	"drover/api"
	"drover/fib"
)

// plain is a heap as the chapter says it: a list of entries as they came in, and how many handles there have been.
type plain struct {
	given int
	list  []item
}

type item struct {
	handle int
	key    fib.Key
}

// order is that of keys, reckoned without package ratio.
func order(a, b fib.Key) int {
	x, y := new(big.Int), new(big.Int)
	x.Mul(x.SetUint64(a.Ratio.N), new(big.Int).SetUint64(b.Ratio.D))
	y.Mul(y.SetUint64(b.Ratio.N), new(big.Int).SetUint64(a.Ratio.D))
	switch c := x.Cmp(y); {
	case c != 0:
		return c
	case a.Tie < b.Tie:
		return -1
	case a.Tie > b.Tie:
		return 1
	}
	return 0
}

func (p *plain) at(handle int) int {
	return slices.IndexFunc(p.list, func(i item) bool { return i.handle == handle })
}

func (p *plain) insert(k fib.Key) (int, api.Errno) {
	if k.Ratio.D == 0 {
		return 0, api.ErrForm
	}
	p.list = append(p.list, item{p.given, k})
	p.given++
	return p.given - 1, api.OK
}

func (p *plain) get(handle int) (fib.Key, api.Errno) {
	if i := p.at(handle); i >= 0 {
		return p.list[i].key, api.OK
	}
	return fib.Key{}, api.ErrNone
}

func (p *plain) min() (int, fib.Key, api.Errno) {
	if len(p.list) == 0 {
		return 0, fib.Key{}, api.ErrNone
	}
	// The list is by handles, and MinFunc answers the first of several.
	i := slices.MinFunc(p.list, func(a, b item) int { return order(a.key, b.key) })
	return i.handle, i.key, api.OK
}

func (p *plain) drop(handle int) api.Errno {
	i := p.at(handle)
	if i < 0 {
		return api.ErrNone
	}
	p.list = slices.Delete(p.list, i, i+1)
	return api.OK
}

func (p *plain) decrease(handle int, k fib.Key) api.Errno {
	i := p.at(handle)
	switch {
	case i < 0:
		return api.ErrNone
	case k.Ratio.D == 0:
		return api.ErrForm
	case order(k, p.list[i].key) > 0:
		return api.ErrRange
	}
	p.list[i].key = k
	return api.OK
}

func (p *plain) meld(other *plain) (int, api.Errno) {
	if other == nil || other == p {
		return 0, api.ErrState
	}
	base := p.given
	for _, i := range other.list {
		p.list = append(p.list, item{base + i.handle, i.key})
	}
	p.given += other.given
	*other = plain{}
	return base, api.OK
}

// some is a key by chance: few ratios in many parts, so that like ones are often met, and now and then one with a D of 0 or with parts at the limits.
func some(r *rand.Rand) fib.Key {
	k := key(uint64(r.Intn(6)), uint64(1+r.Intn(6)), int64(r.Intn(5)-2))
	switch r.Intn(20) {
	case 0:
		k.Ratio.D = 0
	case 1:
		k.Ratio.N = math.MaxUint64 - uint64(r.Intn(3))
	case 2:
		k.Ratio.D = math.MaxUint64 - uint64(r.Intn(3))
	case 3:
		k.Tie = [...]int64{math.MinInt64, math.MaxInt64}[r.Intn(2)]
	}
	return k
}

// three are heaps beside their plain lists.
type three struct {
	r      *rand.Rand
	heaps  [3]*fib.Heap
	plains [3]*plain
}

// handle is mostly one of an entry's, else one that may be gone or was never there.
func (w *three) handle(i int) int {
	p := w.plains[i]
	if len(p.list) > 0 && w.r.Intn(10) > 0 {
		return p.list[w.r.Intn(len(p.list))].handle
	}
	return w.r.Intn(p.given+4) - 2
}

// step does one call by chance on one heap and its list, and tells which, and whether both answered the same.
func (w *three) step(calls []string) (string, bool) {
	i := w.r.Intn(3)
	h, p := w.heaps[i], w.plains[i]
	switch c := calls[w.r.Intn(len(calls))]; c {
	case "insert":
		k := some(w.r)
		n, e := h.Insert(k)
		n2, e2 := p.insert(k)
		return c, n == n2 && e == e2
	case "pop":
		n, k, e := h.Pop()
		n2, k2, e2 := p.min()
		p.drop(n2)
		return c, n == n2 && k == k2 && e == e2
	case "decrease":
		at, k := w.handle(i), some(w.r)
		return c, h.Decrease(at, k) == p.decrease(at, k)
	case "delete":
		at := w.handle(i)
		return c, h.Delete(at) == p.drop(at)
	default:
		j := w.r.Intn(3)
		n, e := h.Meld(w.heaps[j])
		n2, e2 := p.meld(w.plains[j])
		return c, n == n2 && e == e2
	}
}

// alike asks all that can be asked of each heap without changing it.
func (w *three) alike() bool {
	for i, h := range w.heaps {
		p := w.plains[i]
		n, k, e := h.Min()
		if n2, k2, e2 := p.min(); n != n2 || k != k2 || e != e2 || h.Len() != len(p.list) {
			return false
		}
		for _, it := range p.list {
			if k, e := h.Get(it.handle); k != it.key || e != api.OK {
				return false
			}
		}
		for range 3 {
			at := w.handle(i)
			k, e := h.Get(at)
			if k2, e2 := p.get(at); k != k2 || e != e2 {
				return false
			}
		}
	}
	return true
}

// P8.1 to P8.5: runs of calls by chance on three heaps are held against plain lists at each call, and popped to the last at the end.
func TestChance(t *testing.T) {
	mixes := [][]string{
		{"insert", "insert", "insert", "pop", "decrease", "decrease", "delete"},
		{"insert", "insert", "insert", "insert", "pop", "decrease", "decrease", "decrease", "decrease", "delete"},
		{"insert", "insert", "insert", "insert", "insert", "insert", "pop", "decrease", "delete", "meld"},
		{"insert", "insert", "pop", "decrease", "delete", "meld"},
	}
	for seed := range int64(160) {
		w := three{r: rand.New(rand.NewSource(seed))}
		for i := range 3 {
			w.heaps[i], w.plains[i] = fib.New(), &plain{}
		}
		mix := mixes[seed%int64(len(mixes))]
		for step := range 400 {
			if c, ok := w.step(mix); !ok || !w.alike() {
				t.Fatalf("seed %d, step %d, %s: other than the plain list", seed, step, c)
			}
		}
		for i, h := range w.heaps {
			for len(w.plains[i].list) > 0 {
				n, k, _ := w.plains[i].min()
				w.plains[i].drop(n)
				if n2, k2, e := h.Pop(); n != n2 || k != k2 || e != api.OK {
					t.Fatalf("seed %d: popped %d, %v, %d, not %d, %v", seed, n2, k2, e, n, k)
				}
			}
			empty(t, h)
		}
	}
}

// P8.5: keys put in by chance come out in their order, each once.
func TestSorts(t *testing.T) {
	r := rand.New(rand.NewSource(8))
	for _, n := range []int{1, 2, 3, 10, 1000, 50000} {
		h := fib.New()
		var want []item
		for i := range n {
			k := key(uint64(r.Intn(n)), uint64(1+r.Intn(20)), int64(r.Intn(3)))
			put(t, h, k, i)
			want = append(want, item{i, k})
		}
		slices.SortStableFunc(want, func(a, b item) int { return order(a.key, b.key) })
		for _, i := range want {
			if handle, k, e := h.Pop(); handle != i.handle || k != i.key || e != api.OK {
				t.Fatalf("%d keys: popped %d, %v, %d, not %v", n, handle, k, e, i)
			}
		}
		empty(t, h)
	}
}
