package share_test

import (
	"fmt"
	"math"
	"slices"
	"strconv"
	"strings"
	"testing"

	"drover/api"
	"drover/share"
)

const (
	top      = api.MaxAmount
	heaviest = api.MaxWeight
)

func usage(name string, weight int64, used ...int64) share.Usage {
	u := share.Usage{Name: name, Weight: weight}
	copy(u.Used[:], used)
	return u
}

// noWeights are numbers that no weight is: just outside of what is allowed, and far from it.
func noWeights() []int64 {
	return []int64{0, -1, heaviest + 1, -heaviest, 2 * heaviest, 1 << 32, 1<<32 + 1, -1<<32 + 1, math.MinInt64, math.MinInt64 + 1, math.MaxInt64}
}

// noAmounts are numbers that no formed vector has.
func noAmounts() []int64 {
	return []int64{-1, top + 1, -top, 2 * top, math.MinInt64, math.MinInt64 + 1, math.MaxInt64}
}

// strange are names that any tenant may have, though some are no texts; rising.
func strange() []string {
	long := strings.Repeat("x", 100000)
	return []string{"", "\x00", "\x00\x00", "\n", "\x1b", " ", `"`, "A", "Tenant", `\`, "a", "a\x00b", "a\x00c", "a b", "aa", "ab", "b", "node-1", long, long + "y", "\x7f", "\x80", "\xc3", "é", "α", "\u2028", "\xed\xa0\x80", "\uffff", "\U00010000", "\U0010ffff", "\xff", "\xff\xfe"}
}

func namesOf(l []share.Usage) []string {
	var out []string
	for _, u := range l {
		out = append(out, u.Name)
	}
	return out
}

// shown is usages as text, of their names no more than the beginning.
func shown(l []share.Usage) string {
	var out string
	for _, u := range l {
		out += fmt.Sprintf("{%.20q %d %v}", u.Name, u.Weight, u.Used)
	}
	return out
}

// inOrder asks that Order answers these names, and First the first of them, among all, and among those that are left when the first ones aren't asked for.
func inOrder(t *testing.T, whole api.Vector, l []share.Usage, want ...string) {
	t.Helper()
	if got, e := share.Order(whole, l...); !slices.Equal(got, want) || e != api.OK {
		t.Fatalf("Order(%v, %s) = %.40q, %d, not %.40q", whole, shown(l), got, e, want)
	}
	for i, name := range want {
		first(t, whole, want[i:], l, name)
	}
	firstNot(t, api.ErrNone, whole, nil, l)
}

// first asks that First answers that name.
func first(t *testing.T, whole api.Vector, among []string, l []share.Usage, want string) {
	t.Helper()
	if got, e := share.First(whole, among, l...); got != want || e != api.OK {
		t.Fatalf("First(%v, %.40q, %s) = %.40q, %d, not %.40q", whole, among, shown(l), got, e, want)
	}
}

// firstNot asks that First refuses so.
func firstNot(t *testing.T, want api.Errno, whole api.Vector, among []string, l []share.Usage) {
	t.Helper()
	if got, e := share.First(whole, among, l...); got != "" || e != want {
		t.Fatalf("First(%v, %.40q, %s) = %.40q, %d, not %d", whole, among, shown(l), got, e, want)
	}
}

// refused asks that Order refuses so, and First too, whoever is asked for.
func refused(t *testing.T, want api.Errno, whole api.Vector, l ...share.Usage) {
	t.Helper()
	if got, e := share.Order(whole, l...); len(got) != 0 || e != want {
		t.Fatalf("Order(%v, %s) = %.40q, %d, not %d", whole, shown(l), got, e, want)
	}
	firstNot(t, want, whole, nil, l)
	firstNot(t, want, whole, []string{"nobody"}, l)
	firstNot(t, want, whole, namesOf(l), l)
	for _, u := range l {
		firstNot(t, want, whole, []string{u.Name}, l)
	}
}

// orders calls each with every order of l.
func orders[T any](l []T, each func([]T)) {
	var grow func(done, left []T)
	grow = func(done, left []T) {
		if len(left) == 0 {
			each(done)
			return
		}
		for i, x := range left {
			grow(append(slices.Clone(done), x), slices.Delete(slices.Clone(left), i, i+1))
		}
	}
	grow(nil, l)
}

// P15.1, P15.2: the chapter's example.
func TestExample(t *testing.T) {
	whole := api.Vector{10, 10}
	l := []share.Usage{usage("a", 1, 4, 0), usage("b", 1, 1, 3), usage("c", 2, 8, 0)}
	inOrder(t, whole, l, "b", "a", "c")
	first(t, whole, []string{"c", "a"}, l, "a")
}

// P15.1, P15.2: no usage is no error, whatever the whole is, and there is nobody to be first.
func TestNone(t *testing.T) {
	for _, whole := range []api.Vector{{}, {1, 2, 3, 4}, {top, top, top, top}, {-1}, {0, 0, 0, top + 1}} {
		inOrder(t, whole, nil)
		inOrder(t, whole, []share.Usage{})
		firstNot(t, api.ErrNone, whole, []string{"a", ""}, nil)
	}
}

// P15.1, P15.2: one usage is all of the order, whatever is used.
func TestOne(t *testing.T) {
	for _, name := range strange() {
		for _, used := range []api.Vector{{}, {1}, {0, 0, 0, top}, {top, top, top, top}} {
			for _, whole := range []api.Vector{{}, {1}, {5, 5, 5, 5}, {top, top, top, top}} {
				inOrder(t, whole, []share.Usage{{Name: name, Weight: 7, Used: used}}, name)
			}
		}
	}
}

// P15.1: the lesser share is first, over whatever kind it is the greatest of a tenant's, and weighed.
func TestShares(t *testing.T) {
	inOrder(t, api.Vector{10, 100, 1000, 1}, []share.Usage{
		usage("half", 1, 5),
		usage("most", 1, 0, 99, 0, 0),
		usage("none", 1),
		usage("tenth", 1, 0, 0, 100, 0),
		usage("twice", 1, 0, 0, 0, 2),
		usage("third", 3, 0, 0, 0, 1),
		usage("little", 1000, 10, 100, 1000, 1),
	}, "none", "little", "tenth", "third", "half", "most", "twice")
	// The greatest part counts, not the first one, the last one, or the sum.
	inOrder(t, api.Vector{10, 10, 10, 10}, []share.Usage{
		usage("a", 1, 3, 3, 3, 3), usage("b", 1, 2, 2, 2, 2), usage("c", 1, 0, 0, 4, 0), usage("d", 1, 0, 1, 0, 0), usage("e", 1, 5, 0, 0, 0), usage("f", 1, 0, 0, 0, 6),
	}, "d", "b", "a", "c", "e", "f")
}

// P15.1: numbers are held against each other as numbers, names as bytes.
func TestNumbers(t *testing.T) {
	inOrder(t, api.Vector{100}, []share.Usage{usage("9", 1, 100), usage("10", 1, 9), usage("x", 1, 10)}, "10", "x", "9")
	inOrder(t, api.Vector{100}, []share.Usage{usage("9", 1, 1), usage("10", 1, 1), usage("Z", 1, 1), usage("a", 1, 1)}, "10", "9", "Z", "a")
}

// P15.1: kinds of which the whole has nothing don't count, whatever is used of them; where it has nothing at all, all shares are alike.
func TestWholeOfNoughts(t *testing.T) {
	l := []share.Usage{usage("d", 1, top, 0, 1, 2), usage("c", 1, 0, 7, 2, 1), usage("b", 9, top, top, 27, 0), usage("a", 1000, 5, 5, 0, 1000)}
	inOrder(t, api.Vector{}, l, "a", "b", "c", "d")
	inOrder(t, api.Vector{0, 0, 30, 0}, l, "a", "d", "c", "b")
	inOrder(t, api.Vector{0, 0, 0, 4}, l, "b", "a", "c", "d")
	inOrder(t, api.Vector{0, 0, 30, 4}, l, "b", "a", "c", "d")
	inOrder(t, api.Vector{0, top, 0, 0}, l, "d", "a", "c", "b")
	for i := range 4 {
		var whole api.Vector
		whole[i] = top
		var used api.Vector
		used[i] = 1
		more := share.Usage{Name: "a", Weight: 1, Used: used}
		used = api.Vector{top, top, top, top}
		used[i] = 0
		inOrder(t, whole, []share.Usage{more, {Name: "b", Weight: 1, Used: used}}, "b", "a")
	}
}

// P15.1: a used vector or a whole that isn't formed is ErrForm, at whatever place, in whatever usage.
func TestForm(t *testing.T) {
	good := []share.Usage{usage("a", 1, 1), usage("b", 2, 2), usage("c", 3, 3)}
	for _, n := range noAmounts() {
		for kind := range 4 {
			for i := range good {
				l := slices.Clone(good)
				l[i].Used[kind] = n
				refused(t, api.ErrForm, api.Vector{9, 9, 9, 9}, l...)
				refused(t, api.ErrForm, api.Vector{}, l...)
				refused(t, api.ErrForm, api.Vector{9, 9, 9, 9}, l[i])
			}
			whole := api.Vector{9, 9, 9, 9}
			whole[kind] = n
			refused(t, api.ErrForm, whole, good...)
			refused(t, api.ErrForm, whole, good[0])
		}
	}
	edge := api.Vector{top, top, top, top}
	inOrder(t, edge, []share.Usage{{Name: "b", Weight: 1, Used: edge}, {Name: "a", Weight: 1, Used: edge}}, "a", "b")
}

// P15.1: weights of 1 to MaxWeight are weights, and no others, in whatever usage.
func TestWeights(t *testing.T) {
	whole := api.Vector{top}
	l := []share.Usage{usage("a", 1, 1000), usage("b", 2, 1000), usage("c", heaviest-1, 1000), usage("d", heaviest, 1000)}
	inOrder(t, whole, l, "d", "c", "b", "a")
	for _, w := range noWeights() {
		for i := range l {
			wrong := slices.Clone(l)
			wrong[i].Weight = w
			refused(t, api.ErrRange, whole, wrong...)
			refused(t, api.ErrRange, api.Vector{}, wrong...)
			refused(t, api.ErrRange, whole, wrong[i])
		}
	}
	for w := int64(1); w < heaviest; w++ {
		inOrder(t, whole, []share.Usage{usage("a", w, 1), usage("b", w+1, 1)}, "b", "a")
		inOrder(t, whole, []share.Usage{usage("b", w, w), usage("a", w+1, w+1)}, "a", "b")
	}
}

// P15.1: of several usages at fault the first one's error is told, of one that has two faults ErrForm.
func TestFirstError(t *testing.T) {
	whole := api.Vector{9}
	good, form, weight, both := usage("a", 1, 1), usage("b", 1, -1), usage("c", 0, 1), usage("d", 0, -1)
	refused(t, api.ErrForm, whole, both)
	refused(t, api.ErrForm, api.Vector{-1}, weight)
	refused(t, api.ErrForm, api.Vector{-1}, weight, good)
	refused(t, api.ErrForm, api.Vector{-1}, good, weight)
	orders([]share.Usage{good, form, weight, both, usage("e", 1001)}, func(l []share.Usage) {
		want := api.ErrForm
		for _, u := range l {
			if u.Name == "b" || u.Name == "d" {
				break
			}
			if u.Name == "c" || u.Name == "e" {
				want = api.ErrRange
				break
			}
		}
		refused(t, want, whole, l...)
	})
}

// P15.1: two of one name are refused, be they alike or not, side by side or not.
func TestTwice(t *testing.T) {
	whole := api.Vector{10, 10}
	a, z := usage("m", 1, 5), usage("z", 1, 9)
	for _, name := range strange() {
		one := usage(name, 2, 4)
		for _, other := range []share.Usage{one, usage(name, 1, 2), usage(name, 1, 0, 2), usage(name, 2, 5), usage(name, 1)} {
			refused(t, api.ErrTwice, whole, one, other)
			refused(t, api.ErrTwice, whole, other, one)
			refused(t, api.ErrTwice, whole, one, a, other)
			refused(t, api.ErrTwice, whole, z, one, a, other)
			refused(t, api.ErrTwice, whole, one, z, other, a)
			refused(t, api.ErrTwice, api.Vector{}, a, one, other, z)
		}
	}
	refused(t, api.ErrTwice, whole, a, a, a)
	refused(t, api.ErrTwice, whole, a, z, z, a)
}

// P15.1, P15.2: that two have one name is told of those too of whom nobody asks.
func TestTwiceElsewhere(t *testing.T) {
	l := []share.Usage{usage("a", 1), usage("b", 1, 1), usage("b", 1, 2)}
	firstNot(t, api.ErrTwice, api.Vector{9}, []string{"a"}, l)
	firstNot(t, api.ErrTwice, api.Vector{9}, nil, l)
	firstNot(t, api.ErrTwice, api.Vector{9}, []string{"x"}, l)
}

// P15.1: a wrong usage comes ahead of two of one name, wherever it stands, and be it one of these.
func TestWrongBesideTwice(t *testing.T) {
	whole := api.Vector{10}
	for want, wrong := range map[api.Errno]share.Usage{api.ErrForm: usage("w", 1, top+1), api.ErrRange: usage("w", heaviest+1, 1)} {
		orders([]share.Usage{wrong, usage("a", 1, 1), usage("a", 1, 1), usage("b", 1, 1)}, func(l []share.Usage) {
			refused(t, want, whole, l...)
		})
		wrong.Name = "a"
		orders([]share.Usage{wrong, usage("a", 1, 1), usage("b", 1, 1)}, func(l []share.Usage) {
			refused(t, want, whole, l...)
		})
	}
	refused(t, api.ErrForm, api.Vector{-1}, usage("a", 1), usage("a", 1))
}

// P15.1, P15.2: names are told apart by all of their bytes, so that none of these is another.
func TestNamesApart(t *testing.T) {
	names := []string{"ab", "AB", "ab ", " ab", "ab\x00", "a", "b", "abc", "", "é", "e\u0301", "\xe9", "\ufffd", "\xff"}
	var l []share.Usage
	for i, name := range names {
		l = append(l, usage(name, 1, int64(i)))
	}
	inOrder(t, api.Vector{20}, l, names...)
	for _, name := range names {
		first(t, api.Vector{20}, []string{name}, l, name)
	}
}

// many are n usages with the names 0, 1, 2, .., of which many have like shares, and their order.
func many(n int) ([]share.Usage, []string) {
	var l []share.Usage
	for i := range n {
		l = append(l, usage(strconv.Itoa(i*7919%n), 1, int64(i*31%(n/3+1))))
	}
	sorted := slices.Clone(l)
	slices.SortFunc(sorted, func(a, b share.Usage) int {
		if a.Used != b.Used {
			return int(a.Used[0] - b.Used[0])
		}
		return strings.Compare(a.Name, b.Name)
	})
	return l, namesOf(sorted)
}

// P15.1, P15.2: many usages.
func TestMany(t *testing.T) {
	for _, n := range []int{2, 3, 8, 9, 100, 1000} {
		l, want := many(n)
		inOrder(t, api.Vector{10}, l, want...)
	}
}

// P15.1, P15.2: more usages than a heap of layer 8 has handles.
func TestMost(t *testing.T) {
	l, want := many(1<<20 + 5000)
	whole := api.Vector{10}
	got, e := share.Order(whole, l...)
	if e != api.OK || len(got) != len(want) {
		t.Fatalf("Order = %d names, %d", len(got), e)
	}
	for i, name := range want {
		if got[i] != name {
			t.Fatalf("the name %d is %q, not %q", i, got[i], name)
		}
	}
	for _, i := range []int{0, len(want) - 1} {
		if name, e := share.First(whole, want[i:], l...); name != want[i] || e != api.OK {
			t.Fatalf("First of those from %d on = %q, %d, not %q", i, name, e, want[i])
		}
	}
	l[len(l)-1].Weight = 0
	if got, e := share.Order(whole, l...); len(got) != 0 || e != api.ErrRange {
		t.Fatalf("Order with a wrong one at the end = %d names, %d", len(got), e)
	}
	l[len(l)-1] = l[0]
	if got, e := share.Order(whole, l...); len(got) != 0 || e != api.ErrTwice {
		t.Fatalf("Order with the first one again = %d names, %d", len(got), e)
	}
}
