package share_test

import (
	"math/big"
	"math/rand"
	"slices"
	"testing"

	"drover/api"
	"drover/share"
)

// alike are usages whose shares are all 2/5 of {10, 20, 0, 5}, by other kinds, weights and amounts.
func alike() []share.Usage {
	return []share.Usage{
		usage("", 1, 4),
		usage("", 1, 0, 8),
		usage("", 1, 4, 8, top, 2),
		usage("", 2, 8, 1, 0, 1),
		usage("", 5, 20, 3),
		usage("", 10, 0, 0, 77, 20),
		usage("", heaviest, 0, 8000, 0, 1999),
	}
}

// P15.1: of like shares the lesser name is first, in whatever order names come, and by whatever the shares are alike.
func TestLikeShares(t *testing.T) {
	whole, like := api.Vector{10, 20, 0, 5}, alike()
	for _, names := range [][]string{
		{"a", "b", "c", "d", "e"},
		{"", "\x00", "a", "a\x00", "aa"},
		{"a", "ab", "abc", "abcd", "abd"},
		{"Z", "a", "é", "\uffff", "\U00010000"},
		{"\x7f", "\x80", "\xc3", "é", "\xff"},
	} {
		if !slices.IsSorted(names) {
			t.Fatalf("%q don't rise", names)
		}
		orders(names, func(named []string) {
			for shift := range like {
				var l []share.Usage
				for i, name := range named {
					u := like[(i+shift)%len(like)]
					u.Name = name
					l = append(l, u)
				}
				inOrder(t, whole, l, names...)
			}
		})
	}
}

// P15.1: any bytes are a name, and of like shares names rise byte by byte.
func TestStrangeNames(t *testing.T) {
	rising, like := strange(), alike()
	if !slices.IsSorted(rising) {
		t.Fatal("the names don't rise")
	}
	r := rand.New(rand.NewSource(15))
	for range 30 {
		var l []share.Usage
		for _, i := range r.Perm(len(rising)) {
			u := like[r.Intn(len(like))]
			u.Name = rising[i]
			l = append(l, u)
		}
		inOrder(t, api.Vector{10, 20, 0, 5}, l, rising...)
	}
}

// P15.1: a share comes ahead of a name: who has less is first, whatever both are called.
func TestShareAheadOfName(t *testing.T) {
	for _, less := range strange() {
		for _, more := range strange() {
			if less != more {
				inOrder(t, api.Vector{10}, []share.Usage{usage(more, 1, 2), usage(less, 1, 1)}, less, more)
			}
		}
	}
}

// apart asks for the order of one that has less and one that has more, both ways round, with names of both kinds.
func apart(t *testing.T, whole api.Vector, less, more share.Usage) {
	t.Helper()
	for _, names := range [][2]string{{"a", "b"}, {"b", "a"}} {
		less.Name, more.Name = names[0], names[1]
		inOrder(t, whole, []share.Usage{less, more}, names[:]...)
		inOrder(t, whole, []share.Usage{more, less}, names[:]...)
	}
}

// P15.1: shares of one kind that lie as close as they can are told apart.
func TestCloseOfOneKind(t *testing.T) {
	apart(t, api.Vector{top}, usage("", 1, top-1), usage("", 1, top))
	apart(t, api.Vector{top}, usage("", 1, 0), usage("", heaviest, 1))
	apart(t, api.Vector{top}, usage("", heaviest, top-1), usage("", heaviest, top))
	apart(t, api.Vector{1}, usage("", heaviest, top-1), usage("", heaviest, top))
	// n/999 and m/1000 with 1000n and 999m that are 1 apart, at the beginning and at the end of what can be used.
	for _, i := range []int64{0, 1, 12345, (top - 1000) / 1000} {
		apart(t, api.Vector{top}, usage("", 999, 998+999*i), usage("", heaviest, 999+1000*i))
		apart(t, api.Vector{top}, usage("", heaviest, 1+1000*i), usage("", 999, 1+999*i))
		inOrder(t, api.Vector{top}, []share.Usage{usage("b", 999, 999*i), usage("a", heaviest, 1000*i)}, "a", "b")
	}
}

// P15.1: shares of two kinds that lie as close as they can, apart by 1 over the product of both bottoms, are told apart.
func TestCloseOfTwoKinds(t *testing.T) {
	whole := api.Vector{top, top - 1}
	apart(t, whole, usage("", 1, 0, top-2), usage("", 1, top-1))
	apart(t, whole, usage("", 1, 1), usage("", 1, 0, 1))
	inOrder(t, whole, []share.Usage{usage("b", 1, top), usage("a", 1, 0, top-1)}, "a", "b")
	found := 0
	for v := int64(900); v <= heaviest; v++ {
		for w := int64(900); w <= heaviest; w++ {
			b, d := big.NewInt(top*v), big.NewInt((top-1)*w)
			n := new(big.Int).ModInverse(d, b)
			if n == nil || n.Cmp(big.NewInt(top)) > 0 {
				continue
			}
			// n/b is more than m/d by 1/(bd).
			m := new(big.Int).Mul(n, d)
			m.Sub(m, big.NewInt(1)).Div(m, b)
			apart(t, whole, usage("", w, 0, m.Int64()), usage("", v, n.Int64()))
			found++
		}
	}
	if found < 2 {
		t.Fatalf("only %d pairs were found", found)
	}
}
