package profile_test

import (
	"math"
	"slices"
	"testing"

	"drover/api"
	"drover/profile"
)

const most = 1 << 12 // takes of one profile

// of is a new profile, and asks that it has no takes.
func of(t *testing.T, capacity api.Vector) *profile.Profile {
	t.Helper()
	p, e := profile.New(capacity)
	if p == nil || e != api.OK {
		t.Fatalf("New(%v) = %v, %d", capacity, p, e)
	}
	untouched(t, p, capacity)
	return p
}

// untouched asks that p has that capacity, and no takes that could be seen.
func untouched(t *testing.T, p *profile.Profile, capacity api.Vector) {
	t.Helper()
	steps(t, p)
	for _, at := range []int64{math.MinInt64, -1, 0, 1, api.MaxNow - 1, api.MaxNow, math.MaxInt64} {
		free(t, p, at, capacity)
	}
	least(t, p, 0, 1, capacity)
	least(t, p, 0, api.MaxNow, capacity)
	least(t, p, api.MaxNow-1, api.MaxNow, capacity)
	earliest(t, p, 0, api.MaxNow, capacity, 0)
	earliest(t, p, 3, 1, capacity, 3)
}

func free(t *testing.T, p *profile.Profile, at int64, want api.Vector) {
	t.Helper()
	if v := p.Free(at); v != want {
		t.Fatalf("Free(%d) = %v, not %v", at, v, want)
	}
}

func least(t *testing.T, p *profile.Profile, from, to int64, want api.Vector) {
	t.Helper()
	if v, e := p.Least(from, to); v != want || e != api.OK {
		t.Fatalf("Least(%d, %d) = %v, %d, not %v", from, to, v, e, want)
	}
}

func take(t *testing.T, p *profile.Profile, from, to int64, v api.Vector) {
	t.Helper()
	if e := p.Take(from, to, v); e != api.OK {
		t.Fatalf("Take(%d, %d, %v) = %d", from, to, v, e)
	}
}

// refuses asks that Take answers that error, and leaves the steps as they were.
func refuses(t *testing.T, p *profile.Profile, from, to int64, v api.Vector, want api.Errno) {
	t.Helper()
	ahead := p.Steps()
	if e := p.Take(from, to, v); e != want {
		t.Fatalf("Take(%d, %d, %v) = %d, not %d", from, to, v, e, want)
	}
	steps(t, p, ahead...)
}

func earliest(t *testing.T, p *profile.Profile, from, span int64, v api.Vector, want int64) {
	t.Helper()
	if at, e := p.Earliest(from, span, v); at != want || e != api.OK {
		t.Fatalf("Earliest(%d, %d, %v) = %d, %d, not %d", from, span, v, at, e, want)
	}
}

// never asks that Earliest answers that error, and no tick.
func never(t *testing.T, p *profile.Profile, from, span int64, v api.Vector, want api.Errno) {
	t.Helper()
	if at, e := p.Earliest(from, span, v); at != 0 || e != want {
		t.Fatalf("Earliest(%d, %d, %v) = %d, %d, not %d", from, span, v, at, e, want)
	}
}

// steps asks for the steps, and that Free knows of each: ahead of it, at it, and up to the next one.
func steps(t *testing.T, p *profile.Profile, want ...profile.Step) {
	t.Helper()
	if l := p.Steps(); !slices.Equal(l, want) {
		t.Fatalf("Steps = %v, not %v", l, want)
	}
	for i, s := range want {
		free(t, p, s.At, s.Free)
		if i > 0 {
			free(t, p, s.At-1, want[i-1].Free)
		}
	}
}

// from is a step.
func from(at int64, v ...int64) profile.Step {
	s := profile.Step{At: at}
	copy(s.Free[:], v)
	return s
}

// The chapter's examples.
func TestExamples(t *testing.T) {
	p := of(t, api.Vector{4})
	take(t, p, 2, 5, api.Vector{3})
	free(t, p, 1, api.Vector{4})
	free(t, p, 2, api.Vector{1})
	free(t, p, 5, api.Vector{4})
	steps(t, p, from(2, 1), from(5, 4))
	refuses(t, p, 4, 9, api.Vector{2}, api.ErrOver)
	earliest(t, p, 0, 3, api.Vector{2}, 5)
	earliest(t, p, 0, 2, api.Vector{2}, 0)
	least(t, p, 0, 3, api.Vector{1})
}

// unformed are vectors that are not formed, each by one number alone.
func unformed() []api.Vector {
	var out []api.Vector
	for i := range 4 {
		for _, n := range []int64{math.MinInt64, -1, api.MaxAmount + 1, math.MaxInt64} {
			v := api.Vector{1, 1, 1, 1}
			v[i] = n
			out = append(out, v)
		}
	}
	return out
}

// P11.1: New of a capacity that is formed, at its limits too, is a profile without takes; of one that isn't it is nil.
func TestNew(t *testing.T) {
	for _, v := range []api.Vector{{}, {1}, {0, 0, 0, 1}, {1, 2, 3, 4}, {api.MaxAmount}, {0, api.MaxAmount, 0, 5}, {api.MaxAmount, api.MaxAmount, api.MaxAmount, api.MaxAmount}} {
		of(t, v)
	}
	for _, v := range unformed() {
		if p, e := profile.New(v); p != nil || e != api.ErrForm {
			t.Fatalf("New(%v) = %v, %d, not ErrForm", v, p, e)
		}
	}
}

// R7: two profiles do not hang on one another.
func TestTwoProfiles(t *testing.T) {
	p, other := of(t, api.Vector{4}), of(t, api.Vector{4})
	take(t, p, 2, 5, api.Vector{3})
	untouched(t, other, api.Vector{4})
	take(t, other, 3, 9, api.Vector{4})
	steps(t, p, from(2, 1), from(5, 4))
	steps(t, other, from(3, 0), from(9, 4))
}

// P11.1: Free holds a take's first tick and not its last, and knows of no take below 0, behind MaxNow, and at the limits of ticks.
func TestFree(t *testing.T) {
	whole, left := api.Vector{4, 9}, api.Vector{1, 9}
	for _, x := range []struct{ from, to int64 }{{0, 1}, {0, 7}, {2, 3}, {2, 9}, {0, api.MaxNow}, {5, api.MaxNow}, {api.MaxNow - 1, api.MaxNow}} {
		p := of(t, whole)
		take(t, p, x.from, x.to, api.Vector{3})
		for _, at := range []int64{math.MinInt64, math.MinInt64 + 1, -api.MaxNow, -1, x.from - 1, x.to, x.to + 1, api.MaxNow, api.MaxNow + 1, math.MaxInt64 - 1, math.MaxInt64} {
			free(t, p, at, whole)
		}
		for _, at := range []int64{x.from, (x.from + x.to) / 2, x.to - 1} {
			free(t, p, at, left)
		}
		steps(t, p, from(x.from, 1, 9), from(x.to, 4, 9))
	}
}

// P11.5: a nil profile has a capacity of 0 and no takes, and none can be taken, whatever is asked.
func TestNil(t *testing.T) {
	var p *profile.Profile
	untouched(t, p, api.Vector{})
	for _, v := range append(unformed(), api.Vector{}, api.Vector{1}) {
		for _, x := range [][2]int64{{0, 1}, {0, api.MaxNow}, {1, 1}, {-1, 2}, {0, api.MaxNow + 1}} {
			if e := p.Take(x[0], x[1], v); e != api.ErrState {
				t.Fatalf("Take(%d, %d, %v) on nil = %d", x[0], x[1], v, e)
			}
		}
	}
	untouched(t, p, api.Vector{})
	refusesSpans(t, p)
	refusesStarts(t, p)
	for i := range 4 {
		v := api.Vector{}
		v[i] = 1
		never(t, p, 5, 2, v, api.ErrOver)
	}
	never(t, p, 5, api.MaxNow-4, api.Vector{}, api.ErrRange)
	earliest(t, p, 5, api.MaxNow-5, api.Vector{}, 5)
}

// P11.1: a profile of nothing, be it New's or the zero one, has takes of nothing alone.
func TestNothing(t *testing.T) {
	for _, p := range []*profile.Profile{of(t, api.Vector{}), {}} {
		untouched(t, p, api.Vector{})
		take(t, p, 0, api.MaxNow, api.Vector{})
		refuses(t, p, 0, 1, api.Vector{0, 0, 1}, api.ErrOver)
		never(t, p, 0, 1, api.Vector{0, 1}, api.ErrOver)
		untouched(t, p, api.Vector{})
	}
}

// R5: what Steps answers is nobody else's memory, its spare room neither: not the profile's, nor another answer's.
func TestNewMemory(t *testing.T) {
	p := of(t, api.Vector{9, 9})
	for i := range int64(5) {
		take(t, p, 10*i, 10*i+5, api.Vector{i + 1, 1})
	}
	want := p.Steps()
	first, second := p.Steps(), p.Steps()
	clear(first[:cap(first)])
	if !slices.Equal(second, want) {
		t.Fatalf("another answer was made %v from %v", second, want)
	}
	steps(t, p, want...)
	free(t, p, 41, api.Vector{4, 8})
	// Room for a step in the midst, for one at the end, and a step that goes.
	for _, x := range [][2]int64{{12, 14}, {50, 60}, {45, 50}} {
		kept := p.Steps()
		same := slices.Clone(kept)
		take(t, p, x[0], x[1], api.Vector{1, 1})
		if !slices.Equal(kept, same) {
			t.Fatalf("what Steps has answered was made %v from %v", kept, same)
		}
		grown := append(kept, from(1000, 1))
		clear(grown)
		least(t, p, 0, 100, api.Vector{4, 7})
	}
	steps(t, p, from(0, 8, 8), from(5, 9, 9), from(10, 7, 8), from(12, 6, 7), from(14, 7, 8), from(15, 9, 9), from(20, 6, 8), from(25, 9, 9), from(30, 5, 8), from(35, 9, 9), from(40, 4, 8), from(45, 8, 8), from(60, 9, 9))
}
