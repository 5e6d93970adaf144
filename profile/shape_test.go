package profile

import (
	"math/rand"
	"testing"

	"drover/api"
)

// sound asks of p that its steps rise, that none is like the one ahead of it, that all is free behind the last, and that nothing is kept of those that are gone.
func sound(t *testing.T, p *Profile) {
	t.Helper()
	ahead := Step{At: -1, Free: p.capacity}
	for _, s := range p.steps {
		if s.At <= ahead.At || s.Free == ahead.Free {
			t.Fatalf("the step %v stands behind %v", s, ahead)
		}
		ahead = s
	}
	if ahead.Free != p.capacity {
		t.Fatalf("behind all steps %v is free, not %v", ahead.Free, p.capacity)
	}
	if len(p.steps) > 2*p.takes {
		t.Fatalf("%d steps of %d takes", len(p.steps), p.takes)
	}
	for _, s := range p.steps[len(p.steps):cap(p.steps)] {
		if s != (Step{}) {
			t.Fatalf("the step %v is kept, though it is gone", s)
		}
	}
}

// P11.1, P11.3: behind each take the steps are those that the chapter names, and no more is kept.
func TestShape(t *testing.T) {
	for seed := range int64(60) {
		r := rand.New(rand.NewSource(seed))
		p, _ := New(api.Vector{50, 50})
		taken := 0
		for range 300 {
			from := r.Int63n(40)
			if p.Take(from, from+r.Int63n(6), api.Vector{r.Int63n(3), r.Int63n(2)}) == api.OK {
				taken++
			}
			if p.takes != taken {
				t.Fatalf("%d takes, not %d", p.takes, taken)
			}
			sound(t, p)
		}
	}
}

// P11.3: what is refused and what only asks leaves a profile as it was.
func TestStays(t *testing.T) {
	p, _ := New(api.Vector{4})
	p.Take(2, 5, api.Vector{3})
	p.Take(7, 9, api.Vector{1})
	for range 3 {
		p.Take(4, 9, api.Vector{2})
		p.Take(3, 3, api.Vector{1})
		p.Take(3, 4, api.Vector{-1})
		p.Least(0, 9)
		p.Earliest(3, 8, api.Vector{2})
		p.Free(8)
		p.Steps()
		sound(t, p)
		if p.takes != 2 || len(p.steps) != 4 {
			t.Fatalf("%d takes, %d steps", p.takes, len(p.steps))
		}
	}
}
