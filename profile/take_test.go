package profile_test

import (
	"math"
	"strconv"
	"testing"

	"drover/api"
	"drover/profile"
)

// spans are such as Least and Take refuse: empty, turned, below 0, and beyond MaxNow.
var spans = [][2]int64{
	{0, 0}, {3, 3}, {api.MaxNow, api.MaxNow}, {-1, -1},
	{1, 0}, {5, 3}, {api.MaxNow, 0}, {api.MaxNow, api.MaxNow - 1}, {0, -1}, {math.MaxInt64, math.MinInt64},
	{-1, 0}, {-1, 5}, {-5, -2}, {math.MinInt64, 1}, {math.MinInt64, math.MaxInt64},
	{0, api.MaxNow + 1}, {3, api.MaxNow + 1}, {api.MaxNow, api.MaxNow + 1}, {api.MaxNow + 1, api.MaxNow + 2}, {0, math.MaxInt64}, {math.MaxInt64 - 1, math.MaxInt64},
}

// refusesSpans asks of Least that it answers ErrRange at spans that are none.
func refusesSpans(t *testing.T, p *profile.Profile) {
	t.Helper()
	for _, x := range spans {
		if v, e := p.Least(x[0], x[1]); v != (api.Vector{}) || e != api.ErrRange {
			t.Fatalf("Least(%d, %d) = %v, %d, not ErrRange", x[0], x[1], v, e)
		}
	}
}

// P11.2, P11.3: spans that are empty, turned, below 0 or beyond MaxNow; those at the limits are none of these.
func TestSpans(t *testing.T) {
	p := of(t, api.Vector{7, 7, 7, 7})
	refusesSpans(t, p)
	take(t, p, 2, 9, api.Vector{1, 2, 3, 4})
	refusesSpans(t, p)
	for _, x := range spans {
		for _, v := range []api.Vector{{}, {1}, {8}} {
			refuses(t, p, x[0], x[1], v, api.ErrRange)
		}
	}
	least(t, p, 0, api.MaxNow, api.Vector{6, 5, 4, 3})
	least(t, p, api.MaxNow-1, api.MaxNow, api.Vector{7, 7, 7, 7})
	least(t, p, 0, 1, api.Vector{7, 7, 7, 7})
	take(t, p, 0, api.MaxNow, api.Vector{1})
	take(t, p, 0, 1, api.Vector{0, 1})
	take(t, p, api.MaxNow-1, api.MaxNow, api.Vector{0, 0, 1})
	steps(t, p, from(0, 6, 6, 7, 7), from(1, 6, 7, 7, 7), from(2, 5, 5, 4, 3), from(9, 6, 7, 7, 7), from(api.MaxNow-1, 6, 7, 6, 7), from(api.MaxNow, 7, 7, 7, 7))
}

// P11.2: of each resource by itself the least that is free, be they least at unlike ticks, at the first or at the last tick; what lies one tick ahead of the span or behind it doesn't count.
func TestLeast(t *testing.T) {
	p := of(t, api.Vector{9, 9, 9, 9})
	take(t, p, 2, 3, api.Vector{5})
	take(t, p, 4, 7, api.Vector{0, 6})
	take(t, p, 6, 9, api.Vector{0, 0, 7})
	take(t, p, 10, 12, api.Vector{1, 1, 1, 8})
	least(t, p, 0, 20, api.Vector{4, 3, 2, 1})
	least(t, p, 2, 11, api.Vector{4, 3, 2, 1})
	least(t, p, 3, 11, api.Vector{8, 3, 2, 1})
	least(t, p, 2, 10, api.Vector{4, 3, 2, 9})
	least(t, p, 0, 2, api.Vector{9, 9, 9, 9})
	least(t, p, 0, 3, api.Vector{4, 9, 9, 9})
	least(t, p, 2, 3, api.Vector{4, 9, 9, 9})
	least(t, p, 3, 4, api.Vector{9, 9, 9, 9})
	least(t, p, 2, 5, api.Vector{4, 3, 9, 9})
	least(t, p, 4, 6, api.Vector{9, 3, 9, 9})
	least(t, p, 5, 7, api.Vector{9, 3, 2, 9})
	least(t, p, 6, 7, api.Vector{9, 3, 2, 9})
	least(t, p, 7, 8, api.Vector{9, 9, 2, 9})
	least(t, p, 8, 11, api.Vector{8, 8, 2, 1})
	least(t, p, 9, 10, api.Vector{9, 9, 9, 9})
	least(t, p, 11, 13, api.Vector{8, 8, 8, 1})
	least(t, p, 12, api.MaxNow, api.Vector{9, 9, 9, 9})
}

// P11.3: v is within what is free, up to the last of each resource and not by one more, wherever in the span it is least.
func TestOver(t *testing.T) {
	for i := range 4 {
		for _, x := range []struct{ from, to int64 }{{0, 1}, {0, 9}, {2, 3}, {3, 8}, {4, 5}, {4, 9}} {
			p := of(t, api.Vector{9, 9, 9, 9})
			hold := api.Vector{}
			hold[i] = 6
			take(t, p, x.from, x.to, hold)
			v := api.Vector{9, 9, 9, 9}
			v[i] = 4
			refuses(t, p, 0, 9, v, api.ErrOver)
			refuses(t, p, x.from, x.from+1, v, api.ErrOver)
			refuses(t, p, x.to-1, x.to, v, api.ErrOver)
			v[i] = 3
			take(t, p, 0, 9, v)
			least(t, p, x.from, x.to, api.Vector{})
			refuses(t, p, x.from, x.to, api.Vector{0, 0, 0, 1}, api.ErrOver)
			refuses(t, p, x.to-1, 20, api.Vector{1}, api.ErrOver)
			take(t, p, 0, 9, api.Vector{})
			take(t, p, 9, api.MaxNow, api.Vector{9, 9, 9, 9})
		}
	}
	p := of(t, api.Vector{api.MaxAmount, 0, 5})
	refuses(t, p, 0, 1, api.Vector{0, 1}, api.ErrOver)
	refuses(t, p, 0, 1, api.Vector{0, 0, 6}, api.ErrOver)
	take(t, p, 0, 1, api.Vector{api.MaxAmount, 0, 5})
	refuses(t, p, 0, 1, api.Vector{api.MaxAmount}, api.ErrOver)
	take(t, p, 1, 2, api.Vector{api.MaxAmount})
	steps(t, p, from(0), from(1, 0, 0, 5), from(2, api.MaxAmount, 0, 5))
}

// span is a take.
type span struct {
	from, to int64
	v        api.Vector
}

// P11.1, P11.3: takes that lie ahead of one another, behind, within, across, and end to end: a step is there where both sides of it are unlike, and is gone where they are alike.
func TestSteps(t *testing.T) {
	one, two, other := api.Vector{1}, api.Vector{2}, api.Vector{0, 1}
	for i, x := range []struct {
		takes []span
		want  []profile.Step
	}{
		{[]span{{2, 5, one}, {7, 9, two}}, []profile.Step{from(2, 3, 4), from(5, 4, 4), from(7, 2, 4), from(9, 4, 4)}},
		{[]span{{7, 9, two}, {2, 5, one}}, []profile.Step{from(2, 3, 4), from(5, 4, 4), from(7, 2, 4), from(9, 4, 4)}},
		{[]span{{2, 9, one}, {4, 6, two}}, []profile.Step{from(2, 3, 4), from(4, 1, 4), from(6, 3, 4), from(9, 4, 4)}},
		{[]span{{4, 6, two}, {2, 9, one}}, []profile.Step{from(2, 3, 4), from(4, 1, 4), from(6, 3, 4), from(9, 4, 4)}},
		{[]span{{2, 6, one}, {4, 9, two}}, []profile.Step{from(2, 3, 4), from(4, 1, 4), from(6, 2, 4), from(9, 4, 4)}},
		{[]span{{4, 9, two}, {2, 6, one}}, []profile.Step{from(2, 3, 4), from(4, 1, 4), from(6, 2, 4), from(9, 4, 4)}},
		{[]span{{2, 9, one}, {2, 9, two}}, []profile.Step{from(2, 1, 4), from(9, 4, 4)}},
		{[]span{{2, 9, one}, {2, 5, one}}, []profile.Step{from(2, 2, 4), from(5, 3, 4), from(9, 4, 4)}},
		{[]span{{2, 9, one}, {5, 9, one}}, []profile.Step{from(2, 3, 4), from(5, 2, 4), from(9, 4, 4)}},
		{[]span{{2, 5, one}, {2, 9, one}}, []profile.Step{from(2, 2, 4), from(5, 3, 4), from(9, 4, 4)}},
		{[]span{{5, 9, one}, {2, 9, one}}, []profile.Step{from(2, 3, 4), from(5, 2, 4), from(9, 4, 4)}},
		// End to end: the step between them is there if they are unlike alone.
		{[]span{{2, 5, one}, {5, 9, one}}, []profile.Step{from(2, 3, 4), from(9, 4, 4)}},
		{[]span{{5, 9, one}, {2, 5, one}}, []profile.Step{from(2, 3, 4), from(9, 4, 4)}},
		{[]span{{2, 5, one}, {5, 9, two}}, []profile.Step{from(2, 3, 4), from(5, 2, 4), from(9, 4, 4)}},
		{[]span{{2, 5, one}, {5, 9, other}}, []profile.Step{from(2, 3, 4), from(5, 4, 3), from(9, 4, 4)}},
		{[]span{{2, 5, one}, {7, 9, one}, {5, 7, one}}, []profile.Step{from(2, 3, 4), from(9, 4, 4)}},
		{[]span{{2, 5, one}, {7, 9, two}, {5, 7, one}}, []profile.Step{from(2, 3, 4), from(7, 2, 4), from(9, 4, 4)}},
		{[]span{{2, 5, two}, {7, 9, one}, {5, 7, one}}, []profile.Step{from(2, 2, 4), from(5, 3, 4), from(9, 4, 4)}},
		// A step that was gone is there again, and gone again.
		{[]span{{2, 5, one}, {5, 9, one}, {5, 9, one}}, []profile.Step{from(2, 3, 4), from(5, 2, 4), from(9, 4, 4)}},
		{[]span{{2, 5, one}, {5, 9, one}, {5, 9, one}, {2, 5, one}}, []profile.Step{from(2, 2, 4), from(9, 4, 4)}},
		{[]span{{2, 5, two}, {5, 9, one}, {5, 9, other}, {2, 5, other}, {5, 9, one}}, []profile.Step{from(2, 2, 3), from(9, 4, 4)}},
		{[]span{{4, 6, one}, {2, 4, one}, {6, 9, one}}, []profile.Step{from(2, 3, 4), from(9, 4, 4)}},
		// Holes that are filled, from both sides of the whole too.
		{[]span{{0, 4, two}, {6, 9, two}, {4, 6, one}, {4, 6, one}}, []profile.Step{from(0, 2, 4), from(9, 4, 4)}},
		{[]span{{0, 4, one}, {4, api.MaxNow, one}}, []profile.Step{from(0, 3, 4), from(api.MaxNow, 4, 4)}},
	} {
		t.Run(strconv.Itoa(i), func(t *testing.T) {
			p := of(t, api.Vector{4, 4})
			for _, s := range x.takes {
				take(t, p, s.from, s.to, s.v)
			}
			steps(t, p, x.want...)
		})
	}
}

// P11.3: takes of nothing are taken, and make no step, wherever they begin and end.
func TestTakeNothing(t *testing.T) {
	p := of(t, api.Vector{4})
	take(t, p, 0, api.MaxNow, api.Vector{})
	take(t, p, 3, 4, api.Vector{})
	untouched(t, p, api.Vector{4})
	take(t, p, 2, 5, api.Vector{4})
	for from := range int64(8) {
		for to := from + 1; to < 9; to++ {
			take(t, p, from, to, api.Vector{})
		}
	}
	steps(t, p, from(2), from(5, 4))
	refuses(t, p, 3, 3, api.Vector{}, api.ErrRange)
}

// P11.3: 2^12 takes and none more; those of nothing count, and those that were refused don't. ErrForm and ErrRange come ahead of ErrFull, ErrOver behind it.
func TestFull(t *testing.T) {
	p := of(t, api.Vector{1, 1})
	var want []profile.Step
	for i := range int64(most) {
		if i == most-1 {
			refuses(t, p, 0, 1, api.Vector{2}, api.ErrOver)
			refuses(t, p, 0, 0, api.Vector{}, api.ErrRange)
			refuses(t, p, 0, 1, api.Vector{-1}, api.ErrForm)
		}
		at := i * 1237 % most
		if e := p.Take(2*at, 2*at+1, api.Vector{1}); e != api.OK {
			t.Fatalf("Take %d = %d", i, e)
		}
		want = append(want, from(2*i, 0, 1), from(2*i+1, 1, 1))
	}
	steps(t, p, want...)
	fullAt(t, p)
	steps(t, p, want...)
	least(t, p, 0, api.MaxNow, api.Vector{0, 1})
	earliest(t, p, 0, 1, api.Vector{1}, 1)
	earliest(t, p, 2, 2, api.Vector{1}, 2*most-1)
	for _, p := range []*profile.Profile{of(t, api.Vector{5}), {}} {
		whole := p.Free(0)
		for range most {
			take(t, p, 3, 9, api.Vector{})
		}
		fullAt(t, p)
		untouched(t, p, whole)
	}
}

// fullAt asks that p takes nothing more, and which error comes first where several apply.
func fullAt(t *testing.T, p *profile.Profile) {
	t.Helper()
	for range 3 {
		refuses(t, p, 1, 2, api.Vector{0, 1}, api.ErrFull)
		refuses(t, p, 0, api.MaxNow, api.Vector{}, api.ErrFull)
		refuses(t, p, 0, 3, api.Vector{api.MaxAmount, 2}, api.ErrFull)
		refuses(t, p, 3, 3, api.Vector{}, api.ErrRange)
		refuses(t, p, 0, api.MaxNow+1, api.Vector{9}, api.ErrRange)
		refuses(t, p, 0, 1, api.Vector{0, -1}, api.ErrForm)
		refuses(t, p, 1, 0, api.Vector{api.MaxAmount + 1}, api.ErrForm)
	}
}

// P11.3: a vector that isn't formed, ahead of a span that is none, ahead of one that is too great.
func TestTakeForm(t *testing.T) {
	p := of(t, api.Vector{4, 4, 4, 4})
	take(t, p, 2, 5, api.Vector{4, 4, 4, 4})
	for _, v := range unformed() {
		refuses(t, p, 7, 9, v, api.ErrForm)
		refuses(t, p, 3, 4, v, api.ErrForm)
		for _, x := range spans {
			refuses(t, p, x[0], x[1], v, api.ErrForm)
		}
	}
	refuses(t, p, 4, 4, api.Vector{5}, api.ErrRange)
	refuses(t, p, 4, 5, api.Vector{5}, api.ErrOver)
	steps(t, p, from(2), from(5, 4, 4, 4, 4))
}

// P11.5: what is free goes down to 0 and no further, whatever is refused on the way.
func TestNeverBelow(t *testing.T) {
	p := of(t, api.Vector{3, 2})
	for i := range 3 {
		take(t, p, 2, 5, api.Vector{1})
		free(t, p, 3, api.Vector{int64(2 - i), 2})
	}
	refuses(t, p, 4, 6, api.Vector{1}, api.ErrOver)
	refuses(t, p, 0, 3, api.Vector{1, 2}, api.ErrOver)
	take(t, p, 0, 7, api.Vector{0, 2})
	refuses(t, p, 0, 1, api.Vector{0, 1}, api.ErrOver)
	steps(t, p, from(0, 3), from(2), from(5, 3), from(7, 3, 2))
}
