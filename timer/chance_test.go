package timer_test

import (
	"math"
	"math/rand"
	"slices"
	"strconv"
	"strings"
	"testing"

	"drover/api"
	"drover/timer"
)

// plain is a clock as the chapter says it: a list of alarms, as they were first set.
type plain struct {
	list []timer.Alarm
}

// order tells which of two alarms is the earlier one.
func order(a, b timer.Alarm) int {
	switch {
	case a.At < b.At:
		return -1
	case a.At > b.At:
		return 1
	}
	return strings.Compare(a.Name, b.Name)
}

func (p *plain) place(name string) int {
	return slices.IndexFunc(p.list, func(a timer.Alarm) bool { return a.Name == name })
}

func (p *plain) set(name string, at int64) api.Errno {
	i := p.place(name)
	switch {
	case i >= 0:
		p.list[i].At = at
	case len(p.list) == most:
		return api.ErrFull
	default:
		p.list = append(p.list, timer.Alarm{Name: name, At: at})
	}
	return api.OK
}

func (p *plain) get(name string) (int64, api.Errno) {
	if i := p.place(name); i >= 0 {
		return p.list[i].At, api.OK
	}
	return 0, api.ErrNone
}

func (p *plain) cancel(name string) api.Errno {
	i := p.place(name)
	if i < 0 {
		return api.ErrNone
	}
	p.list = slices.Delete(p.list, i, i+1)
	return api.OK
}

func (p *plain) next() (timer.Alarm, api.Errno) {
	if len(p.list) == 0 {
		return timer.Alarm{}, api.ErrNone
	}
	return slices.MinFunc(p.list, order), api.OK
}

func (p *plain) due(now int64) []timer.Alarm {
	var rung, left []timer.Alarm
	for _, a := range p.list {
		if a.At <= now {
			rung = append(rung, a)
		} else {
			left = append(left, a)
		}
	}
	slices.SortFunc(rung, order)
	p.list = left
	return rung
}

// alike asks all that can be asked of c without changing it, each of the names among it.
func alike(t *testing.T, c *timer.Clock, p *plain, names []string) {
	t.Helper()
	size(t, c, len(p.list))
	a, e := c.Next()
	if a2, e2 := p.next(); a != a2 || e != e2 {
		t.Fatalf("Next = %v, %d, not %v, %d", a, e, a2, e2)
	}
	for _, name := range names {
		at, e := c.Get(name)
		if at2, e2 := p.get(name); at != at2 || e != e2 {
			t.Fatalf("Get(%q) = %d, %d, not %d, %d", name, at, e, at2, e2)
		}
	}
}

// words are names of few bytes, so that many are unlike by their length alone.
func words(r *rand.Rand, n int) []string {
	var out []string
	for len(out) < n {
		name := make([]byte, r.Intn(6))
		for i := range name {
			name[i] = "\x00a\x80\xff"[r.Intn(4)]
		}
		if !slices.Contains(out, string(name)) {
			out = append(out, string(name))
		}
	}
	return out
}

// tick is one by chance: few, so that like ones are often met, and now and then one at the limits.
func tick(r *rand.Rand, wide int) int64 {
	if r.Intn(30) == 0 {
		return [...]int64{math.MinInt64, math.MaxInt64}[r.Intn(2)]
	}
	return int64(r.Intn(wide) - wide/4)
}

// step does one call by chance on a clock and its list, and asks that both answer the same.
func step(t *testing.T, r *rand.Rand, c *timer.Clock, p *plain, calls string, names []string, wide int) {
	t.Helper()
	name, at := names[r.Intn(len(names))], tick(r, wide)
	switch calls[r.Intn(len(calls))] {
	case 's':
		if e, e2 := c.Set(name, at), p.set(name, at); e != e2 {
			t.Fatalf("Set(%q, %d) = %d, not %d", name, at, e, e2)
		}
	case 'c':
		if e, e2 := c.Cancel(name), p.cancel(name); e != e2 {
			t.Fatalf("Cancel(%q) = %d, not %d", name, e, e2)
		}
	case 'n': // what is the next alarm goes
		a, _ := p.next()
		if e, e2 := c.Cancel(a.Name), p.cancel(a.Name); e != e2 {
			t.Fatalf("Cancel(%q) = %d, not %d", a.Name, e, e2)
		}
	default:
		if got, want := c.Due(at), p.due(at); !slices.Equal(got, want) {
			t.Fatalf("Due(%d) = %v, not %v", at, got, want)
		}
	}
}

// P10.1, P10.2: runs of calls by chance are held against a plain list at each call.
func TestChance(t *testing.T) {
	mixes := []string{"sssscnd", "ssssssssd", "sscc", "ssn", "ssssssssssssssccnnd", "scnd"}
	for seed := range 180 {
		t.Run(strconv.Itoa(seed), func(t *testing.T) {
			r := rand.New(rand.NewSource(int64(seed)))
			names := words(r, [...]int{3, 20, 100}[seed/len(mixes)%3])
			wide := [...]int{1, 5, 1000}[seed/len(mixes)/3%3]
			c, p := timer.New(), &plain{}
			for range 500 {
				step(t, r, c, p, mixes[seed%len(mixes)], names, wide)
				alike(t, c, p, names)
			}
			for len(p.list) > 0 {
				step(t, r, c, p, "cnn", names, wide)
				alike(t, c, p, names)
			}
			empty(t, c)
		})
	}
}

// P10.1: runs of calls by chance where the clock is mostly full.
func TestChanceFull(t *testing.T) {
	for seed := range 4 {
		r := rand.New(rand.NewSource(int64(seed)))
		names := words(r, most+most/4)
		c, p := timer.New(), &plain{}
		for i, name := range names[:most] {
			set(t, c, name, int64(i%50))
			p.set(name, int64(i%50))
		}
		full := 0
		for range 3000 {
			step(t, r, c, p, strings.Repeat("s", 30)+"ccn", names, 100)
			alike(t, c, p, names[:1])
			if len(p.list) == most {
				full++
			}
		}
		if full < 1000 || full == 3000 {
			t.Fatalf("the clock was full behind %d calls of 3000", full)
		}
		alike(t, c, p, names)
		if got, want := c.Due(math.MaxInt64), p.due(math.MaxInt64); !slices.Equal(got, want) {
			t.Fatal("Due of all is not as the list's")
		}
		empty(t, c)
	}
}

// P10.2: what rings at once is what rings tick by tick, or by Next one by one, in the same order.
func TestAtOnce(t *testing.T) {
	for seed := range 30 {
		r := rand.New(rand.NewSource(int64(seed)))
		names := words(r, 200)
		wide := [...]int{1, 20, 300}[seed%3]
		var clocks [3]timer.Clock
		for range 300 {
			name, at := names[r.Intn(len(names))], int64(r.Intn(wide))
			for i := range clocks {
				set(t, &clocks[i], name, at)
			}
		}
		now := int64(r.Intn(wide + 1))
		atOnce := clocks[0].Due(now)
		var byTicks, byNext []timer.Alarm
		for at := range now + 1 {
			byTicks = append(byTicks, clocks[1].Due(at)...)
		}
		for a, e := clocks[2].Next(); e == api.OK && a.At <= now; a, e = clocks[2].Next() {
			byNext = append(byNext, a)
			cancel(t, &clocks[2], a.Name)
		}
		if !slices.IsSortedFunc(atOnce, order) || !slices.Equal(atOnce, byTicks) || !slices.Equal(atOnce, byNext) {
			t.Fatalf("at once %v, tick by tick %v, one by one %v", atOnce, byTicks, byNext)
		}
		rest := clocks[0].Due(math.MaxInt64)
		if !slices.Equal(rest, clocks[1].Due(math.MaxInt64)) || !slices.Equal(rest, clocks[2].Due(math.MaxInt64)) {
			t.Fatal("what is left behind Due is not the same")
		}
	}
}
