package share_test

import (
	"math/rand"
	"slices"
	"strings"
	"testing"
	"unsafe"

	"drover/api"
	"drover/share"
)

// P15.3: the order doesn't hang on that of the usages: every order of few, with like shares and with unlike ones.
func TestEveryOrder(t *testing.T) {
	orders([]share.Usage{usage("e", 1, 4), usage("d", 2, 8), usage("c", 1, 1, 3), usage("b", 1, 0, 3), usage("a", 3, 10, 10), usage("", 1, 9)}, func(l []share.Usage) {
		inOrder(t, api.Vector{10, 10}, l, "b", "c", "a", "d", "e", "")
	})
}

// P15.3: what is refused is so in every order.
func TestEveryOrderRefused(t *testing.T) {
	for want, wrong := range map[api.Errno]share.Usage{api.ErrForm: usage("e", 1, 0, 0, 0, -1), api.ErrRange: usage("e", -1), api.ErrTwice: usage("a", 1, 7)} {
		orders([]share.Usage{usage("a", 1, 4), usage("b", 2, 8), usage("c", 1, 1, 3), wrong}, func(l []share.Usage) {
			refused(t, want, api.Vector{10, 10}, l...)
		})
	}
}

// P15.3: usages by chance, shuffled by chance, have one order.
func TestShuffled(t *testing.T) {
	r := rand.New(rand.NewSource(153))
	for range 200 {
		whole, l := sound(r)
		want := listed(whole, l)
		for range 5 {
			r.Shuffle(len(l), func(i, j int) { l[i], l[j] = l[j], l[i] })
			inOrder(t, whole, l, want...)
		}
	}
}

// sound are usages by chance without fault, and a whole.
func sound(r *rand.Rand) (api.Vector, []share.Usage) {
	for {
		whole := amounts(r, 1000)
		var l []share.Usage
		for range 2 + r.Intn(7) {
			l = append(l, someUsage(r, 6, 1000))
		}
		if fault(whole, l) == api.OK {
			return whole, l
		}
	}
}

// ahead are the names that come ahead of that one.
func ahead(t *testing.T, whole api.Vector, l []share.Usage, name string) []string {
	t.Helper()
	names, e := share.Order(whole, l...)
	i := slices.Index(names, name)
	if e != api.OK || i < 0 {
		t.Fatalf("Order(%v, %s) = %.40q, %d", whole, shown(l), names, e)
	}
	slices.Sort(names[:i])
	return names[:i]
}

// within tells whether all of a are in b.
func within(a, b []string) bool {
	return !slices.ContainsFunc(a, func(s string) bool { return !slices.Contains(b, s) })
}

// P15.3: who takes more has all of those ahead that were so, and the others keep their order.
func TestTakesMore(t *testing.T) {
	r := rand.New(rand.NewSource(154))
	moved := 0
	for range 4000 {
		whole, l := sound(r)
		u := &l[r.Intn(len(l))]
		before, others := ahead(t, whole, l, u.Name), without(t, whole, l, u.Name)
		for i := range u.Used {
			if r.Intn(2) == 0 {
				u.Used[i] = min(top, u.Used[i]+r.Int63n([...]int64{4, top}[r.Intn(2)]))
			}
		}
		after := ahead(t, whole, l, u.Name)
		if !within(before, after) || !slices.Equal(others, without(t, whole, l, u.Name)) {
			t.Fatalf("%q takes more, in %v, %s: %q were ahead, and are %q", u.Name, whole, shown(l), before, after)
		}
		if len(after) > len(before) {
			moved++
		}
	}
	if moved < 500 {
		t.Fatalf("only %d came later", moved)
	}
}

// P15.3: who has a greater weight has none ahead that was not so, and the others keep their order.
func TestWeighsMore(t *testing.T) {
	r := rand.New(rand.NewSource(155))
	moved := 0
	for range 4000 {
		whole, l := sound(r)
		u := &l[r.Intn(len(l))]
		before, others := ahead(t, whole, l, u.Name), without(t, whole, l, u.Name)
		u.Weight = min(heaviest, u.Weight+1+r.Int63n(4))
		after := ahead(t, whole, l, u.Name)
		if !within(after, before) || !slices.Equal(others, without(t, whole, l, u.Name)) {
			t.Fatalf("%q weighs more, in %v, %s: %q were ahead, and are %q", u.Name, whole, shown(l), before, after)
		}
		if len(after) < len(before) {
			moved++
		}
	}
	if moved < 500 {
		t.Fatalf("only %d came earlier", moved)
	}
}

// without is the order of the others.
func without(t *testing.T, whole api.Vector, l []share.Usage, name string) []string {
	t.Helper()
	names, e := share.Order(whole, l...)
	if e != api.OK {
		t.Fatalf("Order(%v, %s) = %d", whole, shown(l), e)
	}
	return slices.DeleteFunc(names, func(s string) bool { return s == name })
}

// P15.3: step by step, who takes more goes behind one after the other, and who is given more weight comes ahead of them again.
func TestSteps(t *testing.T) {
	whole := api.Vector{12}
	l := []share.Usage{usage("m", 1, 0), usage("a", 1, 2), usage("b", 1, 4), usage("x", 1, 4), usage("z", 1, 6)}
	for used, want := range []string{"m a b x z", "m a b x z", "a m b x z", "a m b x z", "a b m x z", "a b x m z", "a b x m z", "a b x z m"} {
		l[0].Used[0] = int64(used)
		inOrder(t, whole, l, strings.Fields(want)...)
	}
	l[0].Used[0] = 12
	for i, want := range []string{"a b x z m", "a b x m z", "a b m x z", "a m b x z", "a m b x z", "a m b x z", "m a b x z"} {
		l[0].Weight = int64(i + 1)
		inOrder(t, whole, l, strings.Fields(want)...)
	}
}

// R5: what is handed in is left as it is, its spare room too, be it refused or not.
func TestHandedIn(t *testing.T) {
	for _, last := range []share.Usage{usage("e", 1, 1), usage("e", 0, 1), usage("e", 1, -1), usage("a", 1, 1)} {
		l := []share.Usage{usage("c", 1, 4), usage("a", 2, 9), usage("b", 1, 1), last, usage("spare", 1), usage("a", 9)}
		among := []string{"c", "nobody", "b", "b", "a", "spare", "a"}
		usages, names := slices.Clone(l), slices.Clone(among)
		share.Order(api.Vector{9}, l[:4]...)
		share.First(api.Vector{9}, among[:4], l[:4]...)
		share.First(api.Vector{9}, among[1:2], l[:4]...)
		if !slices.Equal(l, usages) || !slices.Equal(among, names) {
			t.Fatalf("%s and %q were handed in, and are %s and %q now", shown(usages), names, shown(l), among)
		}
	}
}

// R5: what is handed back is new memory, of which nothing is kept.
func TestHandedBack(t *testing.T) {
	l := []share.Usage{usage("c", 1, 4), usage("a", 2, 9), usage("b", 1, 1)}
	want := []string{"b", "c", "a"}
	one, _ := share.Order(api.Vector{9}, l...)
	two, _ := share.Order(api.Vector{9}, l...)
	clear(two[:cap(two)])
	if !slices.Equal(one, want) {
		t.Fatalf("what was answered is %q now", one)
	}
	clear(one[:cap(one)])
	inOrder(t, api.Vector{9}, l, want...)
}

// R5: the bytes of a name that is answered are neither those of a usage nor of what was asked for.
func TestNamesAreNew(t *testing.T) {
	text := strings.Clone("a long text with names and others within")
	from := uintptr(unsafe.Pointer(unsafe.StringData(text)))
	own := func(s string) {
		t.Helper()
		if at := uintptr(unsafe.Pointer(unsafe.StringData(s))); at >= from && at < from+uintptr(len(text)) {
			t.Fatalf("%q is answered in the memory that was handed in", s)
		}
	}
	l := []share.Usage{usage(text[17:22], 1, 4), usage(text[27:33], 1, 3), usage(text, 1, 2)}
	names, _ := share.Order(api.Vector{9}, l...)
	if !slices.Equal(names, []string{text, "others", "names"}) {
		t.Fatalf("Order = %q", names)
	}
	for _, name := range names {
		own(name)
	}
	for _, among := range [][]string{{text[17:22]}, {text[27:33], text[17:22]}, {text}} {
		name, e := share.First(api.Vector{9}, among, l...)
		if name != among[0] || e != api.OK {
			t.Fatalf("First = %q, %d", name, e)
		}
		own(name)
	}
}
