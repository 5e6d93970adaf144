package profile_test

import (
	"math"
	"testing"

	"drover/api"
	"drover/profile"
)

// refusesStarts asks of Earliest that it answers ErrRange where from isn't 0 to MaxNow or span isn't 1 to MaxNow, of what is within the capacity or not.
func refusesStarts(t *testing.T, p *profile.Profile) {
	t.Helper()
	for _, x := range [][2]int64{
		{-1, 1}, {-5, 9}, {math.MinInt64, 1}, {math.MinInt64, math.MaxInt64}, {api.MaxNow + 1, 1}, {math.MaxInt64, 1}, {math.MaxInt64, math.MaxInt64},
		{0, 0}, {5, 0}, {0, -1}, {5, -5}, {0, math.MinInt64}, {0, api.MaxNow + 1}, {5, api.MaxNow + 1}, {0, math.MaxInt64}, {api.MaxNow, math.MaxInt64}, {-1, 0},
	} {
		for _, v := range []api.Vector{{}, {0, 0, 0, 1}, {api.MaxAmount}} {
			never(t, p, x[0], x[1], v, api.ErrRange)
		}
	}
}

// P11.4: ErrForm comes ahead of a from or a span that is none, these ahead of what isn't within the capacity, and that ahead of a start that is too late.
func TestEarliestErrors(t *testing.T) {
	p := of(t, api.Vector{4, 4, 4, 4})
	refusesStarts(t, p)
	take(t, p, 2, 5, api.Vector{3})
	refusesStarts(t, p)
	for _, v := range unformed() {
		for _, x := range [][2]int64{{0, 1}, {-1, 1}, {0, 0}, {api.MaxNow, api.MaxNow}, {math.MaxInt64, math.MinInt64}} {
			never(t, p, x[0], x[1], v, api.ErrForm)
		}
	}
	for i := range 4 {
		v := api.Vector{}
		v[i] = 5
		never(t, p, 0, 1, v, api.ErrOver)
		never(t, p, 0, api.MaxNow, v, api.ErrOver)
		never(t, p, api.MaxNow, 1, v, api.ErrOver)
		never(t, p, api.MaxNow, api.MaxNow, v, api.ErrOver)
		v[i] = 4
		earliest(t, p, 5, 1, v, 5)
	}
}

// P11.4: t + span may be MaxNow, and not one above it: of a start that is free at once, and of one that is behind takes.
func TestEarliestTooLate(t *testing.T) {
	p := of(t, api.Vector{4})
	earliest(t, p, 0, api.MaxNow, api.Vector{4}, 0)
	never(t, p, 1, api.MaxNow, api.Vector{4}, api.ErrRange)
	earliest(t, p, 1, api.MaxNow-1, api.Vector{4}, 1)
	earliest(t, p, api.MaxNow-1, 1, api.Vector{4}, api.MaxNow-1)
	never(t, p, api.MaxNow-1, 2, api.Vector{4}, api.ErrRange)
	never(t, p, api.MaxNow, 1, api.Vector{}, api.ErrRange)
	never(t, p, api.MaxNow, api.MaxNow, api.Vector{}, api.ErrRange)
	take(t, p, 2, 10, api.Vector{3})
	earliest(t, p, 0, api.MaxNow-10, api.Vector{2}, 10)
	never(t, p, 0, api.MaxNow-9, api.Vector{2}, api.ErrRange)
	earliest(t, p, 0, api.MaxNow, api.Vector{1}, 0)
	take(t, p, api.MaxNow-2, api.MaxNow, api.Vector{4})
	earliest(t, p, 0, api.MaxNow-12, api.Vector{2}, 10)
	never(t, p, 0, api.MaxNow-11, api.Vector{2}, api.ErrRange)
	earliest(t, p, 0, api.MaxNow-2, api.Vector{1}, 0)
	never(t, p, 0, api.MaxNow-1, api.Vector{1}, api.ErrRange)
	earliest(t, p, api.MaxNow-3, 1, api.Vector{4}, api.MaxNow-3)
	never(t, p, api.MaxNow-3, 2, api.Vector{4}, api.ErrRange)
	never(t, p, api.MaxNow-2, 1, api.Vector{4}, api.ErrRange)
	earliest(t, p, api.MaxNow-2, 2, api.Vector{}, api.MaxNow-2)
	p = of(t, api.Vector{4})
	take(t, p, 0, api.MaxNow, api.Vector{3})
	never(t, p, 0, 1, api.Vector{2}, api.ErrRange)
	earliest(t, p, 0, api.MaxNow, api.Vector{1}, 0)
}

// P11.4: a start that is free, one that isn't, gaps as long as the span and one tick shorter, and the end of all takes.
func TestEarliestGaps(t *testing.T) {
	p := of(t, api.Vector{4, 2})
	take(t, p, 3, 5, api.Vector{3})
	take(t, p, 8, 10, api.Vector{2, 1})
	take(t, p, 14, 20, api.Vector{3})
	v := api.Vector{3}
	for _, x := range []struct{ from, span, want int64 }{
		{0, 1, 0}, {0, 3, 0}, {0, 4, 10}, {1, 2, 1}, {1, 3, 5}, {2, 1, 2}, {2, 2, 5}, {3, 1, 5}, {3, 3, 5}, {3, 4, 10}, {4, 3, 5}, {4, 4, 10},
		{5, 3, 5}, {5, 4, 10}, {6, 2, 6}, {6, 3, 10}, {7, 1, 7}, {7, 2, 10}, {8, 4, 10}, {9, 4, 10}, {9, 5, 20}, {10, 4, 10}, {10, 5, 20},
		{11, 3, 11}, {11, 4, 20}, {13, 1, 13}, {13, 2, 20}, {14, 1, 20}, {19, 9, 20}, {20, 1, 20}, {20, 100, 20}, {21, 100, 21}, {0, 5, 20}, {0, api.MaxNow - 20, 20},
	} {
		earliest(t, p, x.from, x.span, v, x.want)
	}
	// What fits in some of the takes goes over these.
	earliest(t, p, 0, 11, api.Vector{2}, 20)
	earliest(t, p, 5, 9, api.Vector{2}, 5)
	earliest(t, p, 4, 9, api.Vector{2}, 5)
	earliest(t, p, 0, 100, api.Vector{1}, 0)
	earliest(t, p, 0, 100, api.Vector{1, 1}, 0)
	earliest(t, p, 0, 8, api.Vector{1, 2}, 0)
	earliest(t, p, 0, 9, api.Vector{1, 2}, 10)
	earliest(t, p, 4, 4, api.Vector{0, 2}, 4)
	earliest(t, p, 5, 4, api.Vector{0, 2}, 10)
	// What is too much for all but the whole capacity.
	earliest(t, p, 6, 3, api.Vector{4, 2}, 10)
	earliest(t, p, 0, 9, api.Vector{4, 2}, 20)
	earliest(t, p, 4, 50, api.Vector{}, 4)
	steps(t, p, from(3, 1, 2), from(5, 4, 2), from(8, 2, 1), from(10, 4, 2), from(14, 1, 2), from(20, 4, 2))
}

// P11.4: steps that lie within what is free for v don't end a gap, and steps within what isn't don't begin one.
func TestEarliestOverSteps(t *testing.T) {
	p := of(t, api.Vector{9})
	for i := range int64(6) {
		take(t, p, i, 12-i, api.Vector{1})
	}
	for i := range int64(3) {
		take(t, p, 20+i, 23, api.Vector{3})
	}
	earliest(t, p, 0, 3, api.Vector{6}, 0)
	earliest(t, p, 0, 4, api.Vector{6}, 9)
	earliest(t, p, 0, 12, api.Vector{6}, 9)
	earliest(t, p, 0, 13, api.Vector{6}, 23)
	earliest(t, p, 0, 22, api.Vector{3}, 0)
	earliest(t, p, 0, 23, api.Vector{3}, 23)
	earliest(t, p, 0, 8, api.Vector{9}, 12)
	earliest(t, p, 0, 9, api.Vector{9}, 23)
	earliest(t, p, 1, 1, api.Vector{7}, 1)
	earliest(t, p, 2, 1, api.Vector{7}, 10)
}

// P11.4: what Earliest answers can be taken there, and none of the ticks ahead of it could.
func TestEarliestIsTaken(t *testing.T) {
	for span := int64(1); span < 12; span++ {
		p := of(t, api.Vector{5, 5})
		for i := range int64(40) {
			v := api.Vector{1 + i%4, i % 3}
			at, e := p.Earliest(i/2, span+i%5, v)
			if e != api.OK {
				t.Fatalf("Earliest = %d", e)
			}
			for early := i / 2; early < at; early++ {
				refuses(t, p, early, early+span+i%5, v, api.ErrOver)
			}
			take(t, p, at, at+span+i%5, v)
		}
	}
}
