package evict

import (
	"slices"

	"drover/api"
	"drover/minmax"
)

// placesOf answers for each job its victim's place; ErrTwice, if two victims have one.
func placesOf(victims []Victim) (map[int64]int, api.Errno) {
	places := make(map[int64]int, len(victims))
	for i, v := range victims {
		places[v.Job] = i
	}
	// Two of one job stand in one place of the map.
	if len(places) < len(victims) {
		return nil, api.ErrTwice
	}
	return places, api.OK
}

// key is less, the earlier the victim's turn is. No two are alike, as jobs are not.
func key(v Victim) minmax.Key {
	// What is latest or greatest comes first. Not by a minus, as the least number of all has no opposite.
	return minmax.Key{v.Priority, ^v.Start, ^v.Job}
}

// jobOf is the job of the victim with that key.
func jobOf(k minmax.Key) int64 {
	return ^k[2]
}

// line gives victims out in their turns. There are several heaps only where there are more victims than one has handles.
type line struct {
	heaps []*minmax.Heap
}

// lined has victims of unlike jobs stand in a line.
func lined(victims []Victim) *line {
	l := &line{}
	var last *minmax.Heap
	for _, v := range victims {
		if _, err := last.Insert(key(v)); err != api.OK {
			// There is no heap yet, or the last one is full.
			last = minmax.New()
			last.Insert(key(v))
			l.heaps = append(l.heaps, last)
		}
	}
	return l
}

// next answers the job of the first victim that is left, which is gone then; ErrNone, if there is none.
func (l *line) next() (int64, api.Errno) {
	_, k, err := l.foremost().PopMin()
	if err != api.OK {
		return 0, err
	}
	return jobOf(k), api.OK
}

// foremost answers the heap that has the first victim of all; nil, if all are empty.
func (l *line) foremost() *minmax.Heap {
	var heap *minmax.Heap
	var least minmax.Key
	for _, h := range l.heaps {
		_, k, err := h.Min()
		if err == api.OK && (heap == nil || slices.Compare(k[:], least[:]) < 0) {
			heap, least = h, k
		}
	}
	return heap
}
