package share

import (
	"slices"
	"strings"

	"drover/api"
	"drover/fib"
	"drover/ratio"
	"drover/vector"
)

// tenant is a name, with its share of the whole.
type tenant struct {
	name  string
	share ratio.Ratio
}

// weighed answers the tenants of l, rising by their names.
func weighed(whole api.Vector, l []Usage) ([]tenant, api.Errno) {
	list := make([]tenant, 0, len(l))
	for _, u := range l {
		part, err := vector.Share(u.Used, whole, u.Weight)
		if err != api.OK {
			return nil, err
		}
		list = append(list, tenant{u.Name, part})
	}
	slices.SortFunc(list, func(a, b tenant) int { return strings.Compare(a.name, b.name) })
	// Only now, as a wrong usage behind two of one name comes ahead of them; and like names stand side by side.
	for i := 1; i < len(list); i++ {
		if list[i].name == list[i-1].name {
			return nil, api.ErrTwice
		}
	}
	return list, api.OK
}

// line gives tenants out in their order. There are several heaps only where there are more tenants than one has handles.
type line struct {
	heaps []*fib.Heap
}

// lined has the tenants of a list that rises by names stand in a line.
func lined(list []tenant) *line {
	l := &line{}
	var last *fib.Heap
	for place, t := range list {
		// As names rise, places tell apart those with like shares as their names do.
		k := fib.Key{Ratio: t.share, Tie: int64(place)}
		if _, err := last.Insert(k); err != api.OK {
			// There is no heap yet, or the last one is full.
			last = fib.New()
			last.Insert(k)
			l.heaps = append(l.heaps, last)
		}
	}
	return l
}

// next answers the place in the list of the first tenant that is left, which is gone then; ErrNone, if there is none.
func (l *line) next() (int, api.Errno) {
	_, k, err := l.foremost().Pop()
	return int(k.Tie), err
}

// foremost answers the heap that has the first tenant of all; nil, if all are empty.
func (l *line) foremost() *fib.Heap {
	var heap *fib.Heap
	var least fib.Key
	for _, h := range l.heaps {
		_, k, err := h.Min()
		if err == api.OK && (heap == nil || before(k, least)) {
			heap, least = h, k
		}
	}
	return heap
}

// before needs no error, as each key has been in a heap, where all are formed.
func before(a, b fib.Key) bool {
	order, _ := ratio.Cmp(a.Ratio, b.Ratio)
	return order < 0 || order == 0 && a.Tie < b.Tie
}
