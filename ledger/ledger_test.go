package ledger_test

import (
	"math"
	"slices"
	"strconv"
	"strings"
	"testing"
	"unsafe"

	"drover/api"
	"drover/ledger"
)

const (
	most = 64            // accounts of one ledger
	top  = api.MaxAmount // of one resource
)

// unformed are vectors that are none, at each place: just outside of what is allowed, and far from it.
func unformed() []api.Vector {
	var list []api.Vector
	for place := range len(api.Vector{}) {
		for _, n := range []int64{-1, top + 1, math.MinInt64, math.MaxInt64, -top, 2 * top, -1 << 32} {
			for _, v := range []api.Vector{{}, {1, 2, 3, 4}, {top, top, top, top}} {
				v[place] = n
				list = append(list, v)
			}
		}
	}
	return list
}

// strange are texts that any account may have as its name, though most are no names, and some no texts; rising.
func strange() []string {
	long := strings.Repeat("x", 100000)
	return []string{"", "\x00", "\x00\x00", "\n", "\x1b", " ", `"`, "A", "Node", `\`, "a", "a\x00b", "a\x00c", "a b", "aa", "ab", "b", "node-1", long, long + "y", "\x7f", "\x80", "\xc3", "é", "α", "\u2028", "\xed\xa0\x80", "\uffff", "\U00010000", "\U0010ffff", "\xff", "\xff\xfe"}
}

func entry(name string, amounts ...int64) ledger.Entry {
	e := ledger.Entry{Name: name}
	copy(e.Amount[:], amounts)
	return e
}

// of is a ledger with one account, of that limit.
func of(t *testing.T, name string, limit api.Vector) *ledger.Ledger {
	t.Helper()
	l := ledger.New()
	open(t, l, name, limit)
	return l
}

// open opens an account, and asks that it is there, with what was used of it.
func open(t *testing.T, l *ledger.Ledger, name string, limit api.Vector) {
	t.Helper()
	used, _ := l.Used(name)
	names := l.Names()
	if place, ok := slices.BinarySearch(names, name); !ok {
		names = slices.Insert(names, place, name)
	}
	if e := l.Open(name, limit); e != api.OK {
		t.Fatalf("Open(%.20q, %v) = %d", name, limit, e)
	}
	named(t, l, names...)
	has(t, l, name, limit, used)
}

// closes closes an account, and asks that it alone is gone.
func closes(t *testing.T, l *ledger.Ledger, name string) {
	t.Helper()
	names := slices.DeleteFunc(l.Names(), func(n string) bool { return n == name })
	if e := l.Close(name); e != api.OK {
		t.Fatalf("Close(%.20q) = %d", name, e)
	}
	named(t, l, names...)
	lacks(t, l, name)
}

// has asks that there is an account with that used of it, and what is left by that limit.
func has(t *testing.T, l *ledger.Ledger, name string, limit, used api.Vector) {
	t.Helper()
	if v, e := l.Used(name); v != used || e != api.OK {
		t.Fatalf("Used(%.20q) = %v, %d, not %v", name, v, e, used)
	}
	var want api.Vector
	for i := range want {
		if used[i] < limit[i] {
			want[i] = limit[i] - used[i]
		}
	}
	if v, e := l.Left(name); v != want || e != api.OK {
		t.Fatalf("Left(%.20q) = %v, %d, not %v", name, v, e, want)
	}
}

// lacks asks that there are no accounts of these names, by every call that says so.
func lacks(t *testing.T, l *ledger.Ledger, names ...string) {
	t.Helper()
	for _, name := range names {
		if v, e := l.Used(name); v != (api.Vector{}) || e != api.ErrNone {
			t.Fatalf("Used(%.20q) = %v, %d, not ErrNone", name, v, e)
		}
		if v, e := l.Left(name); v != (api.Vector{}) || e != api.ErrNone {
			t.Fatalf("Left(%.20q) = %v, %d, not ErrNone", name, v, e)
		}
		if e := l.Close(name); e != api.ErrNone {
			t.Fatalf("Close(%.20q) = %d, not ErrNone", name, e)
		}
		for _, v := range []api.Vector{{}, {1}, {top, top, top, top}} {
			takesNot(t, l, api.ErrNone, ledger.Entry{Name: name, Amount: v})
			givesNot(t, l, api.ErrNone, ledger.Entry{Name: name, Amount: v})
		}
		if slices.Contains(l.Names(), name) {
			t.Fatalf("Names has %.20q", name)
		}
	}
}

func named(t *testing.T, l *ledger.Ledger, want ...string) {
	t.Helper()
	if got := l.Names(); !slices.Equal(got, want) {
		t.Fatalf("Names = %.20q, not %.20q", got, want)
	}
}

// empty asks every call of a ledger without accounts, but Open.
func empty(t *testing.T, l *ledger.Ledger) {
	t.Helper()
	named(t, l)
	lacks(t, l, strange()...)
	takes(t, l)
	gives(t, l)
}

// state is all that a ledger tells of itself; a limit that is less than what is used shows only in part.
type state struct {
	name       string
	used, left api.Vector
}

func look(l *ledger.Ledger) []state {
	var list []state
	for _, name := range l.Names() {
		used, _ := l.Used(name)
		left, _ := l.Left(name)
		list = append(list, state{name, used, left})
	}
	return list
}

// stays asks that a call is refused so, and that the ledger is as it was.
func stays(t *testing.T, l *ledger.Ledger, want api.Errno, what string, call func() api.Errno) {
	t.Helper()
	before := look(l)
	if e := call(); e != want {
		t.Fatalf("%s = %d, not %d", what, e, want)
	}
	if !slices.Equal(look(l), before) {
		t.Fatalf("%s was refused by %d, but has changed the ledger", what, want)
	}
}

func opensNot(t *testing.T, l *ledger.Ledger, want api.Errno, name string, limit api.Vector) {
	t.Helper()
	stays(t, l, want, "Open", func() api.Errno { return l.Open(name, limit) })
}

func closesNot(t *testing.T, l *ledger.Ledger, want api.Errno, name string) {
	t.Helper()
	stays(t, l, want, "Close", func() api.Errno { return l.Close(name) })
}

func takesNot(t *testing.T, l *ledger.Ledger, want api.Errno, entries ...ledger.Entry) {
	t.Helper()
	stays(t, l, want, "Take", func() api.Errno { return l.Take(entries...) })
}

func givesNot(t *testing.T, l *ledger.Ledger, want api.Errno, entries ...ledger.Entry) {
	t.Helper()
	stays(t, l, want, "Give", func() api.Errno { return l.Give(entries...) })
}

func takes(t *testing.T, l *ledger.Ledger, entries ...ledger.Entry) {
	t.Helper()
	if e := l.Take(entries...); e != api.OK {
		t.Fatalf("Take of %d entries = %d", len(entries), e)
	}
}

func gives(t *testing.T, l *ledger.Ledger, entries ...ledger.Entry) {
	t.Helper()
	if e := l.Give(entries...); e != api.OK {
		t.Fatalf("Give of %d entries = %d", len(entries), e)
	}
}

// P13.1 to P13.3: the chapter's examples.
func TestExamples(t *testing.T) {
	l := of(t, "a", api.Vector{4})
	takes(t, l, entry("a", 3))
	takesNot(t, l, api.ErrQuota, entry("a", 2))
	has(t, l, "a", api.Vector{4}, api.Vector{3})
	takesNot(t, l, api.ErrNone, entry("a", 1), entry("b", 0))
	has(t, l, "a", api.Vector{4}, api.Vector{3})
	givesNot(t, l, api.ErrRange, entry("a", 4))
	closesNot(t, l, api.ErrState, "a")
}

// P13.1: a new ledger has no accounts.
func TestNew(t *testing.T) {
	empty(t, ledger.New())
}

// P13.1: any text is a name: none at all, such as are no names, and very long ones; however they come, they are told rising, byte by byte.
func TestNames(t *testing.T) {
	rising := strange()
	if !slices.IsSorted(rising) || len(rising) > most {
		t.Fatal("the names don't rise, or are too many")
	}
	for _, step := range []int{1, 5, 7, 31} {
		l := ledger.New()
		for i := range rising {
			name := rising[i*step%len(rising)]
			lacks(t, l, name)
			open(t, l, name, api.Vector{int64(i*step%len(rising)) + 1})
		}
		named(t, l, rising...)
		for i, name := range rising {
			has(t, l, name, api.Vector{int64(i) + 1}, api.Vector{})
			takes(t, l, entry(name, int64(i)+1))
		}
		for i, name := range rising {
			has(t, l, name, api.Vector{int64(i) + 1}, api.Vector{int64(i) + 1})
			gives(t, l, entry(name, int64(i)+1))
			closes(t, l, name)
			named(t, l, rising[i+1:]...)
		}
		empty(t, l)
	}
}

// P13.1: accounts are found by their names alone, and a name that is part of another is not that one.
func TestFound(t *testing.T) {
	l := of(t, "ab", api.Vector{1})
	open(t, l, "abc", api.Vector{2})
	open(t, l, "b", api.Vector{3})
	lacks(t, l, "", "a", "abcd", "c", "bc", "AB", "ab ", " ab", "ab\x00", "é")
	has(t, l, "ab", api.Vector{1}, api.Vector{})
	has(t, l, "abc", api.Vector{2}, api.Vector{})
	has(t, l, "b", api.Vector{3}, api.Vector{})
}

// P13.1: any formed vector is a limit, noughts and the greatest too; no other is, of a new account or an old one.
func TestOpenForm(t *testing.T) {
	l := of(t, "used", api.Vector{top, 5, 0, 1})
	takes(t, l, entry("used", 4, 4))
	open(t, l, "unused", api.Vector{7})
	for _, v := range unformed() {
		opensNot(t, l, api.ErrForm, "new", v)
		opensNot(t, l, api.ErrForm, "used", v)
		opensNot(t, l, api.ErrForm, "unused", v)
	}
	lacks(t, l, "new")
	for i, v := range []api.Vector{{}, {top, top, top, top}, {top}, {0, top}, {0, 0, top}, {0, 0, 0, top}, {1, 2, 3, 4}, {top - 1, 1}} {
		open(t, l, strconv.Itoa(i), v)
		open(t, l, "again", v)
		has(t, l, strconv.Itoa(i), v, api.Vector{})
	}
}

// fill opens accounts up to as many as there may be.
func fill(t *testing.T, l *ledger.Ledger) {
	t.Helper()
	for i := len(l.Names()); i < most; i++ {
		open(t, l, "n"+strconv.Itoa(i), api.Vector{int64(i)})
	}
	if n := len(l.Names()); n != most {
		t.Fatalf("%d accounts", n)
	}
}

// P13.1: 64 accounts and none more, while those that are there can have another limit; where one is gone there is room for one.
func TestFull(t *testing.T) {
	l := ledger.New()
	fill(t, l)
	opensNot(t, l, api.ErrFull, "", api.Vector{})
	opensNot(t, l, api.ErrFull, "new", api.Vector{1})
	lacks(t, l, "", "new")
	for i := range most {
		open(t, l, "n"+strconv.Itoa(i), api.Vector{1, 1})
	}
	opensNot(t, l, api.ErrFull, "new", api.Vector{1})
	takes(t, l, entry("n5", 1), entry("n6", 0, 1))
	open(t, l, "n5", api.Vector{})
	opensNot(t, l, api.ErrFull, "new", api.Vector{1})
	closesNot(t, l, api.ErrState, "n5")
	opensNot(t, l, api.ErrFull, "new", api.Vector{1})
	closes(t, l, "n7")
	open(t, l, "new", api.Vector{2})
	opensNot(t, l, api.ErrFull, "n7", api.Vector{1})
	gives(t, l, entry("n5", 1))
	closes(t, l, "n5")
	closes(t, l, "n0")
	open(t, l, "n7", api.Vector{3})
	open(t, l, "n5", api.Vector{4})
	opensNot(t, l, api.ErrFull, "n0", api.Vector{1})
	has(t, l, "n6", api.Vector{1, 1}, api.Vector{0, 1})
}

// P13.1: a limit that isn't formed comes ahead of a ledger that is full.
func TestOpenFirstError(t *testing.T) {
	l := ledger.New()
	fill(t, l)
	for _, v := range unformed() {
		opensNot(t, l, api.ErrForm, "new", v)
		opensNot(t, l, api.ErrForm, "n1", v)
	}
	opensNot(t, l, api.ErrFull, "new", api.Vector{})
}

// P13.1: what is opened again has the new limit alone, be it more or less, and what was used of it.
func TestOpenAgain(t *testing.T) {
	l := of(t, "a", api.Vector{4, 9})
	takes(t, l, entry("a", 3, 1))
	open(t, l, "a", api.Vector{5, 1, 7})
	takesNot(t, l, api.ErrQuota, entry("a", 2, 1))
	takes(t, l, entry("a", 2, 0, 7))
	open(t, l, "a", api.Vector{5, 1, 7})
	takesNot(t, l, api.ErrQuota, entry("a", 1))
	open(t, l, "a", api.Vector{6, 1, 7})
	takes(t, l, entry("a", 1))
	has(t, l, "a", api.Vector{6, 1, 7}, api.Vector{6, 1, 7})
}

// P13.1: Close of what isn't there, is used at some place, and isn't; what was closed begins anew.
func TestClose(t *testing.T) {
	l := of(t, "b", api.Vector{5, 5, 5, 5})
	closesNot(t, l, api.ErrNone, "a")
	for place := range len(api.Vector{}) {
		open(t, l, "a", api.Vector{5, 5, 5, 5})
		var v api.Vector
		v[place] = 2
		takes(t, l, ledger.Entry{Name: "a", Amount: v})
		closesNot(t, l, api.ErrState, "a")
		v[place] = 1
		gives(t, l, ledger.Entry{Name: "a", Amount: v})
		closesNot(t, l, api.ErrState, "a")
		open(t, l, "a", api.Vector{})
		closesNot(t, l, api.ErrState, "a")
		gives(t, l, ledger.Entry{Name: "a", Amount: v})
		closes(t, l, "a")
		closesNot(t, l, api.ErrNone, "a")
	}
	open(t, l, "a", api.Vector{1})
	has(t, l, "a", api.Vector{1}, api.Vector{})
	closes(t, l, "b")
	closes(t, l, "a")
	empty(t, l)
}

// P13.2: what is used and left, up to the limits of amounts; of no account, ErrNone.
func TestUsedLeft(t *testing.T) {
	l := of(t, "a", api.Vector{top, 4, 0, 1})
	open(t, l, "b", api.Vector{1})
	for _, v := range []api.Vector{{}, {1}, {top}, {top, 4}, {0, 4, 0, 1}, {top - 1, 3, 0, 1}} {
		takes(t, l, ledger.Entry{Name: "a", Amount: v})
		has(t, l, "a", api.Vector{top, 4, 0, 1}, v)
		has(t, l, "b", api.Vector{1}, api.Vector{})
		gives(t, l, ledger.Entry{Name: "a", Amount: v})
	}
	lacks(t, l, "c")
}

// P13.2: what is left is 0 where more is used than the limit says, and only there.
func TestLeftOver(t *testing.T) {
	l := of(t, "a", api.Vector{top, 9, 9, 9})
	takes(t, l, entry("a", top, 5, 5, 5))
	for _, x := range [][2]api.Vector{
		{{0, 0, 0, 0}, {0, 0, 0, 0}},
		{{top - 1, 5, 5, 5}, {0, 0, 0, 0}},
		{{top, 4, 5, 6}, {0, 0, 0, 1}},
		{{1, 9, 4, 5}, {0, 4, 0, 0}},
		{{0, top, 0, top}, {0, top - 5, 0, top - 5}},
	} {
		if e := l.Open("a", x[0]); e != api.OK {
			t.Fatalf("Open of the limit %v = %d", x[0], e)
		}
		if v, e := l.Left("a"); v != x[1] || e != api.OK {
			t.Fatalf("Left by the limit %v = %v, %d, not %v", x[0], v, e, x[1])
		}
		if v, e := l.Used("a"); v != (api.Vector{top, 5, 5, 5}) || e != api.OK {
			t.Fatalf("Used by the limit %v = %v, %d", x[0], v, e)
		}
	}
}

// P13.1, P13.2: asking changes nothing, nor does an account that isn't there come of it.
func TestAsking(t *testing.T) {
	l := of(t, "a", api.Vector{4})
	takes(t, l, entry("a", 1))
	for range 3 {
		has(t, l, "a", api.Vector{4}, api.Vector{1})
		lacks(t, l, "b", "")
		named(t, l, "a")
	}
}

// P13.4: a nil ledger has no accounts, and none can be opened, whatever is asked.
func TestNil(t *testing.T) {
	var l *ledger.Ledger
	empty(t, l)
	for _, name := range strange() {
		opensNot(t, l, api.ErrState, name, api.Vector{})
		opensNot(t, l, api.ErrState, name, api.Vector{1, 2, 3, 4})
	}
	for _, v := range unformed() {
		opensNot(t, l, api.ErrState, "a", v)
		bad := ledger.Entry{Name: "a", Amount: v}
		for _, entries := range [][]ledger.Entry{{bad}, {bad, entry("a")}, {entry("b", 1), bad}, {entry(""), bad, entry("b", top)}} {
			takesNot(t, l, api.ErrForm, entries...)
			givesNot(t, l, api.ErrForm, entries...)
		}
	}
	takesNot(t, l, api.ErrNone, entry("a"), entry("b", 1))
	givesNot(t, l, api.ErrNone, entry("a"), entry("b", 1))
	empty(t, l)
}

// P13.4: the zero ledger is as New's, at every call that may be its first.
func TestZero(t *testing.T) {
	empty(t, &ledger.Ledger{})
	lacks(t, &ledger.Ledger{}, "a")
	named(t, &ledger.Ledger{})
	takes(t, &ledger.Ledger{})
	gives(t, &ledger.Ledger{})
	takesNot(t, &ledger.Ledger{}, api.ErrForm, entry("a", -1))
	givesNot(t, &ledger.Ledger{}, api.ErrForm, entry("a", -1))
	opensNot(t, &ledger.Ledger{}, api.ErrForm, "a", api.Vector{-1})
	var l ledger.Ledger
	if e := l.Open("a", api.Vector{4}); e != api.OK {
		t.Fatalf("Open of the zero ledger = %d", e)
	}
	has(t, &l, "a", api.Vector{4}, api.Vector{})
	takes(t, &l, entry("a", 4))
	closesNot(t, &l, api.ErrState, "a")
	gives(t, &l, entry("a", 4))
	closes(t, &l, "a")
	fill(t, &l)
	opensNot(t, &l, api.ErrFull, "new", api.Vector{})
}

// R7: two ledgers don't hang on one another.
func TestApart(t *testing.T) {
	a, b := of(t, "x", api.Vector{4}), ledger.New()
	empty(t, b)
	open(t, b, "x", api.Vector{9})
	takes(t, a, entry("x", 3))
	has(t, b, "x", api.Vector{9}, api.Vector{})
	closes(t, b, "x")
	has(t, a, "x", api.Vector{4}, api.Vector{3})
}

// R5: what is handed in is left as it is, its spare room too, and isn't kept.
func TestHandedIn(t *testing.T) {
	l := of(t, "a", api.Vector{9})
	open(t, l, "b", api.Vector{9})
	room := []ledger.Entry{entry("b", 2), entry("a", 1), entry("b", 3), entry("x", 55), entry("y", 56)}
	was := slices.Clone(room)
	entries := room[:3]
	for _, call := range []func(...ledger.Entry) api.Errno{l.Take, l.Take, l.Give, l.Give} {
		call(entries...) // the second of each is refused
		if !slices.Equal(room, was) {
			t.Fatalf("what was handed in is %v now", room)
		}
	}
	takes(t, l, entries...)
	clear(room)
	named(t, l, "a", "b")
	has(t, l, "a", api.Vector{9}, api.Vector{1})
	has(t, l, "b", api.Vector{9}, api.Vector{5})
}

// R5: what is handed back is new memory, of which nothing is kept.
func TestHandedBack(t *testing.T) {
	l := of(t, "b", api.Vector{9})
	open(t, l, "a", api.Vector{8})
	first, second := l.Names(), l.Names()
	clear(second[:cap(second)])
	if !slices.Equal(first, []string{"a", "b"}) {
		t.Fatalf("names that were answered are %q now", first)
	}
	clear(first[:cap(first)])
	named(t, l, "a", "b")
	v, _ := l.Used("a")
	v[0] = 7
	w, _ := l.Left("a")
	w[0] = 7
	has(t, l, "a", api.Vector{8}, api.Vector{})
}

// R5: the bytes of a name that is handed in aren't kept, be it by the first Open, by another, or by an entry.
func TestNameIsNotKept(t *testing.T) {
	l := ledger.New()
	text := strings.Clone("a long text with a name within")
	name := text[19:23]
	for _, call := range []func() api.Errno{
		func() api.Errno { return l.Open(name, api.Vector{4}) },
		func() api.Errno { return l.Open(name, api.Vector{5}) },
		func() api.Errno { return l.Take(entry(name, 3), entry(name, 1)) },
		func() api.Errno { return l.Give(entry(name, 1)) },
	} {
		if e := call(); e != api.OK {
			t.Fatalf("refused by %d", e)
		}
		named(t, l, "name")
		from := uintptr(unsafe.Pointer(unsafe.StringData(text)))
		if at := uintptr(unsafe.Pointer(unsafe.StringData(l.Names()[0]))); at >= from && at < from+uintptr(len(text)) {
			t.Fatal("the ledger has the name in the memory that was handed in")
		}
	}
}
