package timer_test

import (
	"math"
	"slices"
	"strconv"
	"testing"

	"drover/api"
	"drover/timer"
)

// fill sets as many alarms as there may be: those of names that number gives, at unlike ticks.
func fill(t *testing.T, c *timer.Clock) {
	t.Helper()
	for i := range most {
		set(t, c, number(i), int64(i*37%most))
	}
	size(t, c, most)
}

func number(i int) string {
	return "n" + strconv.Itoa(i)
}

func refuses(t *testing.T, c *timer.Clock, name string) {
	t.Helper()
	for _, at := range []int64{math.MinInt64, 0, math.MaxInt64} {
		if e := c.Set(name, at); e != api.ErrFull {
			t.Fatalf("Set(%q, %d) on a full clock = %d", name, at, e)
		}
	}
	size(t, c, most)
	lacks(t, c, name)
}

// P10.1: 1024 alarms and none more, while those of names that are there can be set anew; where one is gone there is room for one.
func TestFull(t *testing.T) {
	c := timer.New()
	fill(t, c)
	refuses(t, c, "")
	refuses(t, c, number(most))
	next(t, c, number(0), 0)
	for i := range most {
		set(t, c, number(i), int64(most-i))
	}
	refuses(t, c, number(most))
	next(t, c, number(most-1), 1)
	cancel(t, c, number(5))
	set(t, c, number(most), 0)
	refuses(t, c, number(5))
	rings(t, c, 0, timer.Alarm{Name: number(most)})
	set(t, c, number(5), 3)
	refuses(t, c, number(most))
	rings(t, c, 2, timer.Alarm{Name: number(most - 1), At: 1}, timer.Alarm{Name: number(most - 2), At: 2})
	set(t, c, "x", 1)
	set(t, c, "y", 1)
	refuses(t, c, number(most-1))
	if got := c.Due(math.MaxInt64); len(got) != most || got[0].Name != "x" || got[1].Name != "y" {
		t.Fatalf("Due of all = %d alarms", len(got))
	}
	empty(t, c)
	fill(t, c)
	refuses(t, c, "x")
	for i := range most {
		cancel(t, c, number(i))
	}
	empty(t, c)
}

// seven is a clock whose alarms are at 10, 20, .. 70, set so that none stands where it came in; byTick has their names by rising ticks.
func seven(t *testing.T) *timer.Clock {
	t.Helper()
	c := timer.New()
	for _, i := range []int{4, 1, 6, 0, 3, 5, 2} {
		set(t, c, byTick[i], int64(10*i+10))
	}
	return c
}

var byTick = [...]string{"d", "b", "g", "a", "f", "c", "e"}

// alarms is what seven sets, rising.
func alarms() []timer.Alarm {
	var out []timer.Alarm
	for i, name := range byTick {
		out = append(out, timer.Alarm{Name: name, At: int64(10*i + 10)})
	}
	return out
}

// P10.1: an alarm that is set again, to an earlier tick, a later one or the same, is the only one of its name and stands by its new tick: of the earliest alarm, of the last one and of each other, ahead of, among and behind all others.
func TestSetAgain(t *testing.T) {
	for i, name := range byTick {
		for at := int64(5); at <= 75; at += 5 {
			want := alarms()
			want[i].At = at
			slices.SortFunc(want, order)
			c := seven(t)
			set(t, c, name, at)
			next(t, c, want[0].Name, want[0].At)
			ringsIn(t, c, want...)
			c = seven(t)
			set(t, c, name, math.MaxInt64)
			set(t, c, name, math.MinInt64)
			next(t, c, name, math.MinInt64)
			set(t, c, name, at)
			rings(t, c, 100, want...)
			empty(t, c)
		}
	}
}

// P10.1, P10.2: what is set again rings at its new tick, and not at the one that it had.
func TestSetAgainRings(t *testing.T) {
	c := of(t, timer.Alarm{Name: "a", At: 5})
	set(t, c, "a", 9)
	rings(t, c, 5)
	rings(t, c, 8)
	rings(t, c, 9, timer.Alarm{Name: "a", At: 9})
	set(t, c, "a", 9)
	set(t, c, "a", 5)
	rings(t, c, 5, timer.Alarm{Name: "a", At: 5})
	rings(t, c, 9)
	set(t, c, "a", 5)
	set(t, c, "a", 5)
	rings(t, c, 5, timer.Alarm{Name: "a", At: 5})
	rings(t, c, 5)
	empty(t, c)
}

// P10.1: Cancel of the earliest alarm, of the last one, and of each other leaves the rest as it was; one that is gone can't be cancelled, and can be set again.
func TestCancel(t *testing.T) {
	for i, first := range byTick {
		for j, second := range byTick {
			c := seven(t)
			cancel(t, c, first)
			lacks(t, c, first)
			want := slices.Delete(alarms(), i, i+1)
			next(t, c, want[0].Name, want[0].At)
			if i == j {
				rings(t, c, 100, want...)
				set(t, c, first, 1)
				ringsIn(t, c, timer.Alarm{Name: first, At: 1})
				continue
			}
			cancel(t, c, second)
			want = slices.DeleteFunc(want, func(a timer.Alarm) bool { return a.Name == second })
			lacks(t, c, first, second)
			ringsIn(t, c, want...)
		}
	}
}

// P10.1, P10.2: one that has rung can't be cancelled, and can be set again.
func TestCancelRung(t *testing.T) {
	c := seven(t)
	rings(t, c, 35, alarms()[:3]...)
	lacks(t, c, "d", "b", "g")
	cancel(t, c, "a")
	lacks(t, c, "a")
	set(t, c, "b", 55)
	ringsIn(t, c, timer.Alarm{Name: "f", At: 50}, timer.Alarm{Name: "b", At: 55}, timer.Alarm{Name: "c", At: 60}, timer.Alarm{Name: "e", At: 70})
}

// P10.1: Cancel of a clock's only alarm.
func TestCancelOnly(t *testing.T) {
	c := of(t, timer.Alarm{Name: "a", At: 5})
	cancel(t, c, "a")
	empty(t, c)
	set(t, c, "a", 6)
	ringsIn(t, c, timer.Alarm{Name: "a", At: 6})
}

// P10.2: Due rings none, some and all, and behind it Next is the first of what is left.
func TestDue(t *testing.T) {
	for now := int64(0); now <= 80; now++ {
		c, want := seven(t), alarms()
		n := min(int(now/10), len(want))
		rings(t, c, now, want[:n]...)
		if n < len(want) {
			next(t, c, want[n].Name, want[n].At)
		}
		rings(t, c, now)
		rings(t, c, 0)
		ringsIn(t, c, want[n:]...)
	}
}

// P10.2: Next changes nothing, and so does Due where nothing rings.
func TestNextStays(t *testing.T) {
	c := seven(t)
	for range 3 {
		next(t, c, "d", 10)
		rings(t, c, 9)
		size(t, c, 7)
	}
	ringsIn(t, c, alarms()...)
}

// P10.2: what is set for a tick that is past rings at the next Due, be it at a less tick than the last one.
func TestDuePast(t *testing.T) {
	c := seven(t)
	rings(t, c, 45, alarms()[:4]...)
	set(t, c, "x", 3)
	set(t, c, "d", 2)
	next(t, c, "d", 2)
	rings(t, c, 2, timer.Alarm{Name: "d", At: 2})
	rings(t, c, 45, timer.Alarm{Name: "x", At: 3})
	ringsIn(t, c, alarms()[4:]...)
}
