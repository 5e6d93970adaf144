package ledger_test

import (
	"slices"
	"testing"

	"drover/api"
	"drover/ledger"
)

// three is a ledger of a, b and c, of whose limits, {10, 10, 10, 10}, all is used but {4, 3, 2, 1}, {1, 1, 1, 1} and nothing.
func three(t *testing.T) *ledger.Ledger {
	t.Helper()
	l := ledger.New()
	for _, name := range []string{"a", "b", "c"} {
		open(t, l, name, api.Vector{10, 10, 10, 10})
	}
	takes(t, l, entry("a", 6, 7, 8, 9), entry("b", 9, 9, 9, 9), entry("c", 10, 10, 10, 10))
	return l
}

// at answers entries with one more at a place among them, and as they were handed in else.
func at(entries []ledger.Entry, place int, e ledger.Entry) []ledger.Entry {
	return slices.Insert(slices.Clone(entries), place, e)
}

// P13.3: what is taken is used, up to the limit at each place, and no more.
func TestTake(t *testing.T) {
	full := api.Vector{10, 10, 10, 10}
	for place := range full {
		l := three(t)
		left, _ := l.Left("a")
		v := left
		v[place]++
		takesNot(t, l, api.ErrQuota, ledger.Entry{Name: "a", Amount: v})
		v[place] = top
		takesNot(t, l, api.ErrQuota, ledger.Entry{Name: "a", Amount: v})
		takes(t, l, ledger.Entry{Name: "a", Amount: left})
		has(t, l, "a", full, full)
		v = api.Vector{}
		v[place] = 1
		takesNot(t, l, api.ErrQuota, ledger.Entry{Name: "a", Amount: v})
		has(t, l, "b", full, api.Vector{9, 9, 9, 9})
		has(t, l, "c", full, full)
	}
}

// P13.3: what is given back is used no more, down to nothing at each place, and no further.
func TestGive(t *testing.T) {
	full := api.Vector{10, 10, 10, 10}
	for place := range full {
		l := three(t)
		used, _ := l.Used("a")
		v := used
		v[place]++
		givesNot(t, l, api.ErrRange, ledger.Entry{Name: "a", Amount: v})
		v[place] = top
		givesNot(t, l, api.ErrRange, ledger.Entry{Name: "a", Amount: v})
		gives(t, l, ledger.Entry{Name: "a", Amount: used})
		has(t, l, "a", full, api.Vector{})
		v = api.Vector{}
		v[place] = 1
		givesNot(t, l, api.ErrRange, ledger.Entry{Name: "a", Amount: v})
		has(t, l, "b", full, api.Vector{9, 9, 9, 9})
		has(t, l, "c", full, full)
	}
}

// P13.3: several entries of one account count together, whichever is at the limit and however they are mixed with others.
func TestTogether(t *testing.T) {
	full := api.Vector{10, 10, 10, 10}
	l := three(t)
	takesNot(t, l, api.ErrQuota, entry("a", 2), entry("a", 3))
	takesNot(t, l, api.ErrQuota, entry("a", 4), entry("b", 1), entry("a", 1))
	takesNot(t, l, api.ErrQuota, entry("a", 0, 0, 0, 1), entry("a", 4), entry("a", 0, 0, 0, 1))
	takesNot(t, l, api.ErrQuota, entry("a", 1), entry("a", 1), entry("a", 1), entry("a", 1), entry("a", 1))
	takes(t, l, entry("a", 1), entry("a", 1), entry("b", 0, 1), entry("a", 2, 0, 0, 1), entry("b", 1))
	has(t, l, "a", full, api.Vector{10, 7, 8, 10})
	has(t, l, "b", full, api.Vector{10, 10, 9, 9})
	givesNot(t, l, api.ErrRange, entry("a", 6), entry("a", 5))
	givesNot(t, l, api.ErrRange, entry("a", 10), entry("b", 1), entry("a", 1))
	givesNot(t, l, api.ErrRange, entry("b", 0, 0, 0, 9), entry("b", 10), entry("b", 0, 0, 0, 1))
	gives(t, l, entry("a", 6), entry("c", 10), entry("a", 4, 7), entry("c", 0, 10), entry("b", 1))
	has(t, l, "a", full, api.Vector{0, 0, 8, 10})
	has(t, l, "b", full, api.Vector{9, 10, 9, 9})
	has(t, l, "c", full, api.Vector{0, 0, 10, 10})
}

// P13.3: one entry at fault refuses all, wherever it stands among such as could be done, and leaves every account as it was.
func TestOneRefusesAll(t *testing.T) {
	good := []ledger.Entry{entry("a", 1), entry("b", 1), entry("a", 0, 1), entry("a", 3), entry("b", 0, 0, 0, 1)}
	for place := range len(good) + 1 {
		l := three(t)
		takesNot(t, l, api.ErrQuota, at(good, place, entry("c", 1))...)
		takesNot(t, l, api.ErrQuota, at(good, place, entry("a", 1))...)
		takesNot(t, l, api.ErrQuota, at(good, place, entry("b", top, top, top, top))...)
		takesNot(t, l, api.ErrNone, at(good, place, entry("d", 1))...)
		takesNot(t, l, api.ErrNone, at(good, place, entry("", 0))...)
		givesNot(t, l, api.ErrRange, at(good, place, entry("c", 11))...)
		givesNot(t, l, api.ErrRange, at(good, place, entry("a", 3))...)
		givesNot(t, l, api.ErrRange, at(good, place, entry("b", top, top, top, top))...)
		givesNot(t, l, api.ErrNone, at(good, place, entry("d", 1))...)
		givesNot(t, l, api.ErrNone, at(good, place, entry("", 0))...)
		for _, v := range unformed() {
			takesNot(t, l, api.ErrForm, at(good, place, ledger.Entry{Name: "a", Amount: v})...)
			givesNot(t, l, api.ErrForm, at(good, place, ledger.Entry{Name: "a", Amount: v})...)
		}
		takes(t, l, at(good, place, entry("c", 0))...)
		gives(t, l, at(good, place, entry("c", 0))...)
		if !slices.Equal(look(l), look(three(t))) {
			t.Fatal("what was taken and given back has changed the ledger")
		}
	}
}

// P13.3: where several errors apply it is ErrForm, then ErrNone, then ErrQuota or ErrRange, in whatever order the entries at fault stand.
func TestFirstError(t *testing.T) {
	l := three(t)
	form, none, much := entry("b", 0, 0, -1), entry("d", 1), entry("c", 11)
	both := entry("d", top+1) // of no account, and not formed
	for _, x := range []struct {
		faults     []ledger.Entry
		take, give api.Errno
	}{
		{[]ledger.Entry{form}, api.ErrForm, api.ErrForm},
		{[]ledger.Entry{both}, api.ErrForm, api.ErrForm},
		{[]ledger.Entry{none}, api.ErrNone, api.ErrNone},
		{[]ledger.Entry{much}, api.ErrQuota, api.ErrRange},
		{[]ledger.Entry{form, none}, api.ErrForm, api.ErrForm},
		{[]ledger.Entry{form, much}, api.ErrForm, api.ErrForm},
		{[]ledger.Entry{both, much}, api.ErrForm, api.ErrForm},
		{[]ledger.Entry{none, much}, api.ErrNone, api.ErrNone},
		{[]ledger.Entry{form, none, much}, api.ErrForm, api.ErrForm},
		{[]ledger.Entry{none, none, much}, api.ErrNone, api.ErrNone},
	} {
		entries := append(slices.Clone(x.faults), entry("a", 1))
		orders(len(entries), func(order []int) {
			var mixed []ledger.Entry
			for _, i := range order {
				mixed = append(mixed, entries[i])
			}
			takesNot(t, l, x.take, mixed...)
			givesNot(t, l, x.give, mixed...)
		})
	}
}

// orders calls what it is given with each order of 0 to n - 1.
func orders(n int, use func([]int)) {
	var grow func([]int)
	grow = func(order []int) {
		if len(order) == n {
			use(order)
			return
		}
		for i := range n {
			if !slices.Contains(order, i) {
				grow(append(slices.Clone(order), i))
			}
		}
	}
	grow(nil)
}

// P13.3: a limit that was made less refuses every take of that account, also where nothing of that resource is taken, or nothing at all; other accounts and what isn't over are left alone.
func TestTakeOver(t *testing.T) {
	for place := range len(api.Vector{}) {
		l := three(t)
		limit, _ := l.Used("a")
		limit[place]--
		if e := l.Open("a", limit); e != api.OK {
			t.Fatal(e)
		}
		for other := range len(api.Vector{}) {
			open(t, l, "a", limit)
			var one api.Vector
			one[other] = 1
			wide := limit
			if other != place {
				wide[other] = top // room enough, where it is asked for
			}
			open(t, l, "a", wide)
			takesNot(t, l, api.ErrQuota, ledger.Entry{Name: "a", Amount: one})
			takesNot(t, l, api.ErrQuota, entry("b", 1), ledger.Entry{Name: "a", Amount: one})
		}
		takesNot(t, l, api.ErrQuota, entry("a"))
		takesNot(t, l, api.ErrQuota, entry("a"), entry("b", 1))
		takesNot(t, l, api.ErrQuota, entry("b", 1), entry("b"), entry("a"))
		takes(t, l, entry("b", 1))
		takes(t, l)
		limit[place]++
		open(t, l, "a", limit)
		takes(t, l, entry("a"))
	}
}

// P13.3: what is over its limit can be given back, in part and wholly; as soon as it is over no more, what is left can be taken.
func TestGiveOver(t *testing.T) {
	l := of(t, "a", api.Vector{9, 9})
	takes(t, l, entry("a", 7, 2))
	open(t, l, "a", api.Vector{4, 3})
	has(t, l, "a", api.Vector{4, 3}, api.Vector{7, 2})
	takesNot(t, l, api.ErrQuota, entry("a", 0, 1))
	givesNot(t, l, api.ErrRange, entry("a", 8))
	givesNot(t, l, api.ErrRange, entry("a", 5), entry("a", 3))
	gives(t, l, entry("a"))
	gives(t, l, entry("a", 2))
	has(t, l, "a", api.Vector{4, 3}, api.Vector{5, 2})
	takesNot(t, l, api.ErrQuota, entry("a", 0, 1))
	gives(t, l, entry("a", 1))
	takesNot(t, l, api.ErrQuota, entry("a", 1))
	takes(t, l, entry("a", 0, 1))
	has(t, l, "a", api.Vector{4, 3}, api.Vector{4, 3})
	open(t, l, "a", api.Vector{})
	gives(t, l, entry("a", 4, 3))
	has(t, l, "a", api.Vector{}, api.Vector{})
	takes(t, l, entry("a"))
	closes(t, l, "a")
}

// P13.3: an entry without amounts counts as one: its account must be there, and not be over its limit; else it changes nothing.
func TestNoAmounts(t *testing.T) {
	l := three(t)
	before := look(l)
	takes(t, l, entry("a"))
	takes(t, l, entry("c"), entry("a"), entry("c"))
	gives(t, l, entry("a"))
	gives(t, l, entry("c"), entry("a"), entry("c"))
	if !slices.Equal(look(l), before) {
		t.Fatal("entries without amounts have changed the ledger")
	}
	takesNot(t, l, api.ErrNone, entry("d"))
	takesNot(t, l, api.ErrNone, entry("a"), entry("d"))
	givesNot(t, l, api.ErrNone, entry("d"))
	givesNot(t, l, api.ErrNone, entry("a"), entry("d"))
	open(t, l, "0", api.Vector{})
	takes(t, l, entry("0"))
	gives(t, l, entry("0"))
	closes(t, l, "0")
}

// P13.3: no entries at all can be taken and given back of every ledger, be an account over its limit or not.
func TestNoEntries(t *testing.T) {
	l := three(t)
	open(t, l, "c", api.Vector{1})
	before := look(l)
	for _, entries := range [][]ledger.Entry{nil, {}} {
		takes(t, l, entries...)
		gives(t, l, entries...)
	}
	if !slices.Equal(look(l), before) {
		t.Fatal("no entries have changed the ledger")
	}
}

// P13.3: amounts as great as they can be, by themselves and together, are beyond the limit or what is used, or just are that.
func TestGreatAmounts(t *testing.T) {
	all := api.Vector{top, top, top, top}
	great := ledger.Entry{Name: "a", Amount: all}
	l := of(t, "a", all)
	open(t, l, "b", all)
	takesNot(t, l, api.ErrQuota, great, great)
	takes(t, l, great)
	has(t, l, "a", all, all)
	takes(t, l, entry("a"))
	takesNot(t, l, api.ErrQuota, entry("a", 1))
	takesNot(t, l, api.ErrQuota, great)
	takesNot(t, l, api.ErrQuota, slices.Repeat([]ledger.Entry{great}, 1000)...)
	takes(t, l, entry("b", top), entry("b", 0, top-1), entry("b", 0, 1))
	has(t, l, "b", all, api.Vector{top, top})
	givesNot(t, l, api.ErrRange, great, entry("a", 0, 0, 0, 1))
	givesNot(t, l, api.ErrRange, great, great)
	givesNot(t, l, api.ErrRange, slices.Repeat([]ledger.Entry{great}, 1000)...)
	gives(t, l, entry("b", top-1, top), entry("b", 1), great)
	has(t, l, "a", all, api.Vector{})
	has(t, l, "b", all, api.Vector{})
}

// P13.3: a sum that would be too great for a number of 64 bits, and be below 0 by that, is refused as any that is too great.
func TestSumBeyondNumbers(t *testing.T) {
	l := of(t, "a", api.Vector{top})
	many := make([]ledger.Entry, 1<<23)
	for i := range many {
		many[i] = entry("a", top)
	}
	takesNot(t, l, api.ErrQuota, many...)
	givesNot(t, l, api.ErrRange, many...)
}
