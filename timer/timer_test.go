package timer_test

import (
	"math"
	"slices"
	"strconv"
	"strings"
	"testing"
	"unsafe"

	"drover/api"
	"drover/timer"
)

const most = 1024 // alarms of one clock

// of is a clock of alarms, set one behind the other.
func of(t *testing.T, alarms ...timer.Alarm) *timer.Clock {
	t.Helper()
	c := timer.New()
	for _, a := range alarms {
		set(t, c, a.Name, a.At)
	}
	return c
}

// set sets an alarm, and asks for it.
func set(t *testing.T, c *timer.Clock, name string, at int64) {
	t.Helper()
	want := c.Len()
	if _, e := c.Get(name); e == api.ErrNone {
		want++
	}
	if e := c.Set(name, at); e != api.OK {
		t.Fatalf("Set(%q, %d) = %d", name, at, e)
	}
	size(t, c, want)
	holds(t, c, name, at)
}

func size(t *testing.T, c *timer.Clock, want int) {
	t.Helper()
	if n := c.Len(); n != want {
		t.Fatalf("Len = %d, not %d", n, want)
	}
}

func holds(t *testing.T, c *timer.Clock, name string, want int64) {
	t.Helper()
	if at, e := c.Get(name); at != want || e != api.OK {
		t.Fatalf("Get(%q) = %d, %d, not %d", name, at, e, want)
	}
}

// lacks asks that there is no alarm of these names, by every call that says so.
func lacks(t *testing.T, c *timer.Clock, names ...string) {
	t.Helper()
	left := c.Len()
	for _, name := range names {
		if at, e := c.Get(name); at != 0 || e != api.ErrNone {
			t.Fatalf("Get(%q) = %d, %d, not ErrNone", name, at, e)
		}
		if e := c.Cancel(name); e != api.ErrNone {
			t.Fatalf("Cancel(%q) = %d, not ErrNone", name, e)
		}
	}
	size(t, c, left)
}

func cancel(t *testing.T, c *timer.Clock, name string) {
	t.Helper()
	left := c.Len()
	if e := c.Cancel(name); e != api.OK {
		t.Fatalf("Cancel(%q) = %d", name, e)
	}
	size(t, c, left-1)
	lacks(t, c, name)
}

func next(t *testing.T, c *timer.Clock, name string, at int64) {
	t.Helper()
	if a, e := c.Next(); a != (timer.Alarm{Name: name, At: at}) || e != api.OK {
		t.Fatalf("Next = %v, %d, not %q at %d", a, e, name, at)
	}
}

// rings asks what is due, and that it is gone.
func rings(t *testing.T, c *timer.Clock, now int64, want ...timer.Alarm) {
	t.Helper()
	left := c.Len()
	if got := c.Due(now); !slices.Equal(got, want) {
		t.Fatalf("Due(%d) = %v, not %v", now, got, want)
	}
	size(t, c, left-len(want))
	for _, a := range want {
		lacks(t, c, a.Name)
	}
}

// ringsIn asks that the alarms of c are these alone, in this order: the first is Next's, ahead of its going by Cancel.
func ringsIn(t *testing.T, c *timer.Clock, alarms ...timer.Alarm) {
	t.Helper()
	size(t, c, len(alarms))
	for _, a := range alarms {
		next(t, c, a.Name, a.At)
		cancel(t, c, a.Name)
	}
	empty(t, c)
}

// empty asks every call of a clock without alarms, but Set.
func empty(t *testing.T, c *timer.Clock) {
	t.Helper()
	size(t, c, 0)
	lacks(t, c, "", "a", "\x00", "\xff", strings.Repeat("a", 1000))
	if a, e := c.Next(); a != (timer.Alarm{}) || e != api.ErrNone {
		t.Fatalf("Next without alarms = %v, %d", a, e)
	}
	for _, now := range []int64{math.MinInt64, -1, 0, 1, math.MaxInt64} {
		rings(t, c, now)
	}
	size(t, c, 0)
}

// The chapter's examples.
func TestExamples(t *testing.T) {
	c := of(t, timer.Alarm{Name: "b", At: 5}, timer.Alarm{Name: "a", At: 5}, timer.Alarm{Name: "c", At: 3}, timer.Alarm{Name: "c", At: 9})
	next(t, c, "a", 5)
	rings(t, c, 5, timer.Alarm{Name: "a", At: 5}, timer.Alarm{Name: "b", At: 5})
	rings(t, c, 8)
	next(t, c, "c", 9)
	lacks(t, c, "b")
	holds(t, c, "c", 9)
	size(t, c, 1)
}

// P10.1: a new clock has nothing, and two of them do not hang on one another.
func TestNew(t *testing.T) {
	c, other := timer.New(), timer.New()
	empty(t, c)
	set(t, c, "a", 1)
	empty(t, other)
	set(t, other, "a", 2)
	set(t, other, "b", 0)
	ringsIn(t, c, timer.Alarm{Name: "a", At: 1})
	ringsIn(t, other, timer.Alarm{Name: "b", At: 0}, timer.Alarm{Name: "a", At: 2})
}

// P10.1: alarms are found by their names alone, and a name that is part of another is not that one.
func TestGet(t *testing.T) {
	c := of(t, timer.Alarm{Name: "ab", At: 4}, timer.Alarm{Name: "abc", At: 2}, timer.Alarm{Name: "b", At: 4})
	lacks(t, c, "", "a", "abcd", "c", "bc", "AB", "ab ", " ab", "ab\x00")
	holds(t, c, "ab", 4)
	holds(t, c, "abc", 2)
	holds(t, c, "b", 4)
	size(t, c, 3)
}

// all goes through the orders of n things.
func all(n int) [][]int {
	if n == 0 {
		return [][]int{nil}
	}
	var out [][]int
	for _, order := range all(n - 1) {
		for i := range n {
			out = append(out, slices.Insert(slices.Clone(order), i, n-1))
		}
	}
	return out
}

// P10.2: the less tick is the earlier one, whatever the names; of like ticks it is the less name, byte by byte, be it unlike at the first byte, at a later one, or by its length alone. However they were set, alarms come in that order.
func TestOrder(t *testing.T) {
	for _, rising := range [][]timer.Alarm{
		{{"e", -2}, {"d", 0}, {"c", 1}, {"b", 9}, {"a", 10}},
		{{"A", 7}, {"Z", 7}, {"a", 7}, {"b", 7}, {"c", 7}},
		{{"aaa", 7}, {"aab", 7}, {"aba", 7}, {"abb", 7}, {"baa", 7}},
		{{"", 7}, {"\x00", 7}, {"\x00\x00", 7}, {"a", 7}, {"aa", 7}},
		{{"job 1", 7}, {"job 10", 7}, {"job 2", 7}, {"job 2 ", 7}, {"job 20", 7}},
		{{"", 7}, {"\x7f", 7}, {"\x80", 7}, {"é", 7}, {"\xff", 7}},
		{{"\uffff", 7}, {"\U00010000", 7}, {"\U0010ffff", 7}, {"\xf8", 7}, {"\xff\x00", 7}},
		{{"z", 6}, {"", 7}, {"y", 7}, {"a", 8}, {"x", 9}},
	} {
		for _, order := range all(len(rising)) {
			fresh := func() *timer.Clock {
				c := timer.New()
				for _, i := range order {
					set(t, c, rising[i].Name, rising[i].At)
				}
				return c
			}
			ringsIn(t, fresh(), rising...)
			rings(t, fresh(), 100, rising...)
		}
	}
}

// P10.1: any bytes are a name: none at all, such as are no text, and very many.
func TestAnyName(t *testing.T) {
	long := strings.Repeat("x", 100000)
	list := []string{"", " ", "\n", "\x00", "\x1b", `"`, `\`, "\x80", "\xc3", "\xed\xa0\x80", "\xff", "\xff\xfe", "a\x00b", "a\x00c", "\u2028", long, long + "y"}
	c := timer.New()
	for i, name := range list {
		lacks(t, c, name)
		set(t, c, name, int64(i))
	}
	for i, name := range list {
		holds(t, c, name, int64(i))
		next(t, c, name, int64(i))
		rings(t, c, int64(i), timer.Alarm{Name: name, At: int64(i)})
		set(t, c, name, 1000)
		cancel(t, c, name)
	}
	empty(t, c)
	set(t, c, "", 0)
	next(t, c, "", 0)
	rings(t, c, -1)
	rings(t, c, 0, timer.Alarm{})
	empty(t, c)
}

// P10.2: ticks at the limits of their type are told apart, and are due at themselves and not one ahead.
func TestLimits(t *testing.T) {
	rising := []int64{math.MinInt64, math.MinInt64 + 1, -1, 0, 1, api.MaxNow, math.MaxInt64 - 1, math.MaxInt64}
	fresh := func() *timer.Clock {
		c := timer.New()
		for _, i := range []int{4, 7, 0, 6, 3, 5, 1, 2} {
			set(t, c, strconv.Itoa(i), rising[i])
		}
		return c
	}
	var want []timer.Alarm
	for i, at := range rising {
		want = append(want, timer.Alarm{Name: strconv.Itoa(i), At: at})
	}
	ringsIn(t, fresh(), want...)
	for i, now := range rising {
		c := fresh()
		rings(t, c, now, want[:i+1]...)
		rings(t, c, now)
		if i+1 < len(want) {
			next(t, c, want[i+1].Name, want[i+1].At)
		}
		ringsIn(t, c, want[i+1:]...)
		if now > math.MinInt64 {
			rings(t, fresh(), now-1, want[:i]...)
		}
	}
	c := of(t, timer.Alarm{Name: "b", At: math.MaxInt64}, timer.Alarm{Name: "a", At: math.MaxInt64})
	rings(t, c, math.MaxInt64-1)
	rings(t, c, math.MaxInt64, timer.Alarm{Name: "a", At: math.MaxInt64}, timer.Alarm{Name: "b", At: math.MaxInt64})
	empty(t, c)
	c = of(t, timer.Alarm{Name: "b", At: math.MinInt64}, timer.Alarm{Name: "a", At: math.MinInt64})
	rings(t, c, math.MinInt64, timer.Alarm{Name: "a", At: math.MinInt64}, timer.Alarm{Name: "b", At: math.MinInt64})
	empty(t, c)
}

// P10.3: a nil clock has no alarms, and none can be set, whatever is asked.
func TestNil(t *testing.T) {
	var c *timer.Clock
	empty(t, c)
	for _, name := range []string{"", "a", "\xff"} {
		for _, at := range []int64{math.MinInt64, 0, 5, math.MaxInt64} {
			if e := c.Set(name, at); e != api.ErrState {
				t.Fatalf("Set(%q, %d) on nil = %d", name, at, e)
			}
		}
	}
	empty(t, c)
}

// P10.3: the zero clock is as New's, at every call that may be its first.
func TestZero(t *testing.T) {
	empty(t, &timer.Clock{})
	lacks(t, &timer.Clock{}, "a")
	rings(t, &timer.Clock{}, math.MaxInt64)
	if a, e := new(timer.Clock).Next(); a != (timer.Alarm{}) || e != api.ErrNone {
		t.Fatalf("Next of the zero clock = %v, %d", a, e)
	}
	var c timer.Clock
	for i, name := range []string{"b", "a", "c"} {
		if e := c.Set(name, int64(5-i)); e != api.OK {
			t.Fatalf("Set(%q) on the zero clock = %d", name, e)
		}
	}
	size(t, &c, 3)
	next(t, &c, "c", 3)
	set(t, &c, "c", 9)
	rings(t, &c, 4, timer.Alarm{Name: "a", At: 4})
	cancel(t, &c, "b")
	ringsIn(t, &c, timer.Alarm{Name: "c", At: 9})
	set(t, &c, "a", 1)
	var full timer.Clock
	fill(t, &full)
	refuses(t, &full, "one more")
}

// R5: a name that is handed in isn't kept, nor is what Due has answered.
func TestNewMemory(t *testing.T) {
	c := timer.New()
	text := strings.Clone("a long text with a name within")
	name := text[19:23]
	for range 2 {
		set(t, c, name, 1)
		a, _ := c.Next()
		from := uintptr(unsafe.Pointer(unsafe.StringData(text)))
		if at := uintptr(unsafe.Pointer(unsafe.StringData(a.Name))); at >= from && at < from+uintptr(len(text)) {
			t.Fatal("the clock has the name in the memory that was handed in")
		}
	}
	set(t, c, "b", 1)
	set(t, c, "z", 2)
	first := c.Due(1)
	want := slices.Clone(first)
	set(t, c, "c", 0)
	second := c.Due(0)
	clear(second[:cap(second)])
	if !slices.Equal(first, want) {
		t.Fatalf("what Due has answered was made %v from %v", first, want)
	}
	clear(first[:cap(first)])
	ringsIn(t, c, timer.Alarm{Name: "z", At: 2})
}
