package share

import (
	"math/rand"
	"slices"
	"strconv"
	"testing"

	"drover/api"
	"drover/fib"
	"drover/ratio"
)

// P15.1: tenants who stand in several heaps, of which some may be empty, are given out in one order, each once, and then nobody is.
func TestSeveralHeaps(t *testing.T) {
	for seed := range int64(300) {
		r := rand.New(rand.NewSource(seed))
		l := &line{}
		for range r.Intn(5) {
			l.heaps = append(l.heaps, fib.New())
		}
		var want []int
		shares := map[int]int64{}
		for place := range 40 * len(l.heaps) {
			n, d := r.Int63n(4), 1+r.Int63n(3)
			want, shares[place] = append(want, place), n*6/d
			k := fib.Key{Ratio: ratio.Ratio{N: uint64(n), D: uint64(d)}, Tie: int64(place)}
			if _, e := l.heaps[r.Intn(1+r.Intn(len(l.heaps)))].Insert(k); e != api.OK {
				t.Fatalf("Insert = %d", e)
			}
		}
		slices.SortStableFunc(want, func(a, b int) int { return int(shares[a] - shares[b]) })
		for _, w := range want {
			if place, e := l.next(); place != w || e != api.OK {
				t.Fatalf("seed %d: next = %d, %d, not %d", seed, place, e, w)
			}
		}
		for range 2 {
			if place, e := l.next(); place != 0 || e != api.ErrNone {
				t.Fatalf("seed %d: next of an empty line = %d, %d", seed, place, e)
			}
		}
	}
}

// P15.1: few tenants stand in one heap, none in none.
func TestOneHeap(t *testing.T) {
	var list []tenant
	for i := range 100 {
		l := lined(list)
		if len(l.heaps) != min(i, 1) || i > 0 && l.heaps[0].Len() != i {
			t.Fatalf("%d tenants stand in %d heaps", i, len(l.heaps))
		}
		list = append(list, tenant{strconv.Itoa(i), ratio.Ratio{N: 1, D: 2}})
	}
}

// P15.2: those who are asked for keep the order that they have in the list, and their shares.
func TestAsked(t *testing.T) {
	var list []tenant
	for i, name := range []string{"", "a", "b", "c", "d"} {
		list = append(list, tenant{name, ratio.Ratio{N: uint64(i), D: 7}})
	}
	for _, x := range []struct {
		among []string
		want  []tenant
	}{
		{nil, nil},
		{[]string{"x", "aa"}, nil},
		{[]string{"d", "", "x", "d"}, []tenant{list[0], list[4]}},
		{[]string{"c", "b", "a"}, list[1:4]},
		{[]string{"d", "c", "b", "a", ""}, list},
	} {
		if got := asked(slices.Clone(list), x.among); !slices.Equal(got, x.want) {
			t.Errorf("asked for %q are %v, not %v", x.among, got, x.want)
		}
	}
}
