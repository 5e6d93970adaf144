package evict

import (
	"math"
	"math/rand"
	"slices"
	"testing"

	"drover/api"
	"drover/minmax"
)

// P17.1: victims who stand in several heaps, of which some may be empty, are given out in one order, each once, and then nobody is.
func TestSeveralHeaps(t *testing.T) {
	for seed := range int64(300) {
		r := rand.New(rand.NewSource(seed))
		l := &line{}
		for range r.Intn(5) {
			l.heaps = append(l.heaps, minmax.New())
		}
		var want []Victim
		for _, job := range r.Perm(40 * len(l.heaps)) {
			v := Victim{Job: int64(job), Priority: r.Int63n(4), Start: r.Int63n(5)}
			want = append(want, v)
			if _, e := l.heaps[r.Intn(1+r.Intn(len(l.heaps)))].Insert(key(v)); e != api.OK {
				t.Fatalf("Insert = %d", e)
			}
		}
		slices.SortFunc(want, func(a, b Victim) int {
			if a.Priority != b.Priority {
				return int(a.Priority - b.Priority)
			}
			if a.Start != b.Start {
				return int(b.Start - a.Start)
			}
			return int(b.Job - a.Job)
		})
		for _, w := range want {
			if job, e := l.next(); job != w.Job || e != api.OK {
				t.Fatalf("seed %d: next = %d, %d, not %d", seed, job, e, w.Job)
			}
		}
		for range 2 {
			if job, e := l.next(); job != 0 || e != api.ErrNone {
				t.Fatalf("seed %d: next of an empty line = %d, %d", seed, job, e)
			}
		}
	}
}

// P17.1: few victims stand in one heap, none in none.
func TestOneHeap(t *testing.T) {
	var victims []Victim
	for i := range 100 {
		l := lined(victims)
		if len(l.heaps) != min(i, 1) || i > 0 && l.heaps[0].Len() != i {
			t.Fatalf("%d victims stand in %d heaps", i, len(l.heaps))
		}
		victims = append(victims, Victim{Job: int64(i)})
	}
}

// P17.1: a key tells whose it is, at the least and the greatest numbers too, and is less for a later start and a greater number there.
func TestKeys(t *testing.T) {
	rising := []int64{math.MinInt64, math.MinInt64 + 1, -1, 0, 1, math.MaxInt64 - 1, math.MaxInt64}
	for i, n := range rising {
		if job := jobOf(key(Victim{Job: n, Start: n, Priority: n})); job != n {
			t.Fatalf("the job of the key of %d is %d", n, job)
		}
		for _, less := range rising[:i] {
			for _, pair := range [][2]Victim{
				{{Job: n}, {Job: less}},
				{{Start: n, Job: less}, {Start: less, Job: n}},
				{{Priority: less, Start: less, Job: less}, {Priority: n, Start: n, Job: n}},
			} {
				first, second := key(pair[0]), key(pair[1])
				if slices.Compare(first[:], second[:]) >= 0 {
					t.Fatalf("the key of %v is %d, that of %v %d", pair[0], first, pair[1], second)
				}
			}
		}
	}
}

// P17.2: those below are answered as they stand, and what is answered has no place in the list that was handed in.
func TestBelow(t *testing.T) {
	victims := []Victim{{Job: 1, Priority: 3}, {Job: 2, Priority: 1}, {Job: 3, Priority: 2}, {Job: 4, Priority: 1}}
	for priority, want := range [][]int64{nil, nil, {2, 4}, {2, 3, 4}, {1, 2, 3, 4}} {
		got := below(int64(priority), victims)
		if !slices.EqualFunc(got, want, func(v Victim, job int64) bool { return v.Job == job }) {
			t.Fatalf("below %d are %v, not %d", priority, got, want)
		}
		clear(got[:cap(got)])
	}
	if victims[0].Job != 1 || victims[3].Job != 4 {
		t.Fatalf("the victims are %v now", victims)
	}
}
