package profile_test

import (
	"math/rand"
	"slices"
	"strconv"
	"testing"

	"drover/api"
	"drover/profile"
)

// plain is a profile as the chapter says it: a capacity and a list of takes, which are gone through tick by tick.
type plain struct {
	capacity api.Vector
	takes    []span
}

// window is the ticks that a run is about: no take begins more than one tick ahead of the first, or ends more than one behind the last.
type window struct{ first, last int64 }

func (m *plain) free(at int64) api.Vector {
	v := m.capacity
	for _, s := range m.takes {
		if s.from <= at && at < s.to {
			for i := range v {
				v[i] -= s.v[i]
			}
		}
	}
	return v
}

func (m *plain) steps(w window) []profile.Step {
	var out []profile.Step
	ahead := m.capacity
	for at := w.first - 1; at <= w.last+1; at++ {
		if v := m.free(at); v != ahead {
			out = append(out, profile.Step{At: at, Free: v})
			ahead = v
		}
	}
	return out
}

func (m *plain) least(from, to int64) (api.Vector, api.Errno) {
	if from < 0 || to > api.MaxNow || from >= to {
		return api.Vector{}, api.ErrRange
	}
	least := m.free(from)
	for at := from; at < to; at++ {
		for i, n := range m.free(at) {
			if n < least[i] {
				least[i] = n
			}
		}
	}
	return least, api.OK
}

func within(v, w api.Vector) bool {
	return v[0] <= w[0] && v[1] <= w[1] && v[2] <= w[2] && v[3] <= w[3]
}

func formed(v api.Vector) bool {
	most := api.Vector{api.MaxAmount, api.MaxAmount, api.MaxAmount, api.MaxAmount}
	return within(api.Vector{}, v) && within(v, most)
}

func (m *plain) take(from, to int64, v api.Vector) api.Errno {
	if !formed(v) {
		return api.ErrForm
	}
	least, e := m.least(from, to)
	switch {
	case e != api.OK:
		return e
	case len(m.takes) == most:
		return api.ErrFull
	case !within(v, least):
		return api.ErrOver
	}
	m.takes = append(m.takes, span{from, to, v})
	return api.OK
}

func (m *plain) earliest(from, span int64, v api.Vector, w window) (int64, api.Errno) {
	switch {
	case !formed(v):
		return 0, api.ErrForm
	case from < 0 || from > api.MaxNow || span < 1 || span > api.MaxNow:
		return 0, api.ErrRange
	case !within(v, m.capacity):
		return 0, api.ErrOver
	}
	start := from
	for !m.fits(start, span, v, w) {
		start++
	}
	if start+span > api.MaxNow {
		return 0, api.ErrRange
	}
	return start, api.OK
}

// fits tells whether v is free at each tick; behind the window all of the capacity is.
func (m *plain) fits(start, span int64, v api.Vector, w window) bool {
	for at := start; at < min(start+span, w.last+1); at++ {
		if !within(v, m.free(at)) {
			return false
		}
	}
	return true
}

// chances makes arguments by chance.
type chances struct {
	*rand.Rand
	window
}

// tick is one of the window's, now and then one beside it.
func (c chances) tick() int64 {
	return c.first - 1 + c.Int63n(c.last-c.first+3)
}

// ends is a span, mostly one that is some.
func (c chances) ends() (int64, int64) {
	a, b := c.tick(), c.tick()
	if a > b && c.Intn(20) > 0 {
		a, b = b, a
	}
	return a, b
}

// amounts are few, else near those of v, now and then none that are formed.
func (c chances) amounts(v api.Vector) api.Vector {
	switch n := c.Intn(40); {
	case n == 0:
		v[c.Intn(4)] = [...]int64{-1, api.MaxAmount + 1}[c.Intn(2)]
	case n < 4:
		v[c.Intn(4)]++
	case n < 8: // just what v is
	default:
		for i := range v {
			v[i] = min(v[i], int64(c.Intn(3)*c.Intn(2)))
		}
	}
	return v
}

func (c chances) capacity() api.Vector {
	var v api.Vector
	for i := range v {
		v[i] = [...]int64{0, 1, 3, 10, 40, api.MaxAmount}[c.Intn(6)]
	}
	return v
}

// alike asks all that can be asked of p at each tick of the window, and some of what can be asked of spans.
func alike(t *testing.T, c chances, p *profile.Profile, m *plain) {
	t.Helper()
	if got, want := p.Steps(), m.steps(c.window); !slices.Equal(got, want) {
		t.Fatalf("Steps = %v, not %v", got, want)
	}
	for at := c.first - 1; at <= c.last+1; at++ {
		free(t, p, at, m.free(at))
		if !within(api.Vector{}, p.Free(at)) {
			t.Fatalf("Free(%d) is below 0", at)
		}
	}
	for range 5 {
		askLeast(t, c, p, m)
		askEarliest(t, c, p, m)
	}
}

func askLeast(t *testing.T, c chances, p *profile.Profile, m *plain) {
	t.Helper()
	from, to := c.ends()
	v, e := p.Least(from, to)
	if v2, e2 := m.least(from, to); v != v2 || e != e2 {
		t.Fatalf("Least(%d, %d) = %v, %d, not %v, %d", from, to, v, e, v2, e2)
	}
}

func askEarliest(t *testing.T, c chances, p *profile.Profile, m *plain) {
	t.Helper()
	from, span := c.tick(), int64(c.Intn(12))
	if c.Intn(10) == 0 {
		span = c.last + c.Int63n(5) - c.tick()
	}
	v := c.amounts(m.capacity)
	if c.Intn(2) == 0 {
		v = c.amounts(m.free(c.tick()))
	}
	at, e := p.Earliest(from, span, v)
	if at2, e2 := m.earliest(from, span, v, c.window); at != at2 || e != e2 {
		t.Fatalf("Earliest(%d, %d, %v) = %d, %d, not %d, %d", from, span, v, at, e, at2, e2)
	}
}

// takeSome takes by chance: mostly of what is free there, of a short span or any.
func takeSome(t *testing.T, c chances, p *profile.Profile, m *plain, short int) {
	t.Helper()
	from, to := c.ends()
	if c.Intn(3) > 0 {
		to = from + int64(c.Intn(short))
	}
	to = min(to, c.last+1)
	v, _ := m.least(from, to)
	v = c.amounts(v)
	if e, e2 := p.Take(from, to, v), m.take(from, to, v); e != e2 {
		t.Fatalf("Take(%d, %d, %v) = %d, not %d", from, to, v, e, e2)
	}
}

// P11.1 to P11.5: runs of calls by chance are held at each call against takes that are gone through tick by tick, at the first ticks, at the last ones, and between.
func TestChance(t *testing.T) {
	for seed := range 120 {
		t.Run(strconv.Itoa(seed), func(t *testing.T) {
			wide := [...]int64{4, 12, 40}[seed%3]
			first := [...]int64{0, 1000, api.MaxNow - wide}[seed/3%3]
			c := chances{rand.New(rand.NewSource(int64(seed))), window{first, first + wide}}
			m := &plain{capacity: c.capacity()}
			p := of(t, m.capacity)
			for range 80 {
				takeSome(t, c, p, m, [...]int{2, 4, 9}[seed/9%3])
				alike(t, c, p, m)
			}
		})
	}
}

// P11.1, P11.3: of all pairs of spans within few ticks, of like and unlike vectors, with a third take over them.
func TestPairs(t *testing.T) {
	const wide = 5
	var all []span
	for from := range int64(wide) {
		for to := from + 1; to <= wide; to++ {
			all = append(all, span{from: from, to: to})
		}
	}
	c := chances{rand.New(rand.NewSource(1)), window{0, wide}}
	for _, v := range [][3]api.Vector{{{1}, {1}, {1}}, {{1}, {2}, {1}}, {{1}, {0, 1}, {0, 1}}, {{2}, {2}, {3}}, {{3}, {1}, {}}} {
		for _, a := range all {
			for _, b := range all {
				m := &plain{capacity: api.Vector{4, 1}}
				p := of(t, m.capacity)
				third := all[c.Intn(len(all))]
				for i, s := range []span{a, b, third} {
					if e, e2 := p.Take(s.from, s.to, v[i]), m.take(s.from, s.to, v[i]); e != e2 {
						t.Fatalf("Take(%d, %d, %v) = %d, not %d", s.from, s.to, v[i], e, e2)
					}
					alike(t, c, p, m)
				}
			}
		}
	}
}

// P11.3: the order of takes that all fit doesn't show.
func TestAnyOrder(t *testing.T) {
	for seed := range 40 {
		c := chances{rand.New(rand.NewSource(int64(seed))), window{0, 60}}
		var takes []span
		for range 60 {
			from, to := c.ends()
			if 0 <= from && from < to {
				takes = append(takes, span{from, to, api.Vector{c.Int63n(3), c.Int63n(2), 0, c.Int63n(api.MaxAmount / 100)}})
			}
		}
		whole := api.Vector{200, 100, 0, api.MaxAmount}
		m := &plain{capacity: whole, takes: takes}
		for range 5 {
			p := of(t, whole)
			for _, i := range c.Perm(len(takes)) {
				take(t, p, takes[i].from, takes[i].to, takes[i].v)
			}
			alike(t, c, p, m)
		}
	}
}
