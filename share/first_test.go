package share_test

import (
	"slices"
	"testing"

	"drover/api"
	"drover/share"
)

func four() ([]share.Usage, []string) {
	return []share.Usage{usage("d", 1, 1), usage("b", 1, 3), usage("a", 2, 4), usage("c", 1, 4)}, []string{"d", "a", "b", "c"}
}

// P15.2: the first of those that are asked for, whoever is: every choice of few, in every order, with strangers and without.
func TestAmong(t *testing.T) {
	l, want := four()
	inOrder(t, api.Vector{9}, l, want...)
	for choice := 1; choice < 1<<len(want); choice++ {
		var among []string
		for i, name := range want {
			if choice>>i&1 == 1 {
				among = append(among, name)
			}
		}
		least := among[0]
		orders(among, func(among []string) {
			first(t, api.Vector{9}, among, l, least)
			first(t, api.Vector{9}, append([]string{"", "nobody"}, among...), l, least)
			first(t, api.Vector{9}, append(slices.Clone(among), "A", "dd"), l, least)
		})
	}
}

// P15.2: ErrNone, if nobody is asked for, or only such as have no usage: names are asked for wholly.
func TestAmongNobody(t *testing.T) {
	l, _ := four()
	for _, among := range [][]string{nil, {}, {""}, {"e"}, {"", "aa", "A", " a", "a ", "a\x00", "ab", "\xff", "é"}, {"ab", "cd"}, {"e", "e"}} {
		firstNot(t, api.ErrNone, api.Vector{9}, among, l)
		firstNot(t, api.ErrNone, api.Vector{}, among, l)
		firstNot(t, api.ErrNone, api.Vector{9}, among, nil)
	}
	long := []share.Usage{usage("abc", 1), usage("abd", 1)}
	for _, among := range [][]string{{"ab"}, {"a", "", "b", "bc"}, {"abcd", "abb", "abe"}} {
		firstNot(t, api.ErrNone, api.Vector{9}, among, long)
	}
}

// P15.2: who is asked for twice, or more often, is asked for as once.
func TestAmongTwice(t *testing.T) {
	l, _ := four()
	first(t, api.Vector{9}, []string{"c", "c"}, l, "c")
	first(t, api.Vector{9}, []string{"c", "b", "c", "b", "b"}, l, "b")
	first(t, api.Vector{9}, []string{"c", "x", "a", "x", "c", "a"}, l, "a")
	first(t, api.Vector{9}, []string{"a", "b", "c", "d", "d", "c", "b", "a"}, l, "d")
}

// P15.2: any bytes may be asked for.
func TestAmongStrange(t *testing.T) {
	names := strange()
	var l []share.Usage
	for i, name := range names {
		l = append(l, usage(name, 1, int64(len(names)-i)))
	}
	for i, name := range names {
		first(t, api.Vector{9}, []string{name}, l, name)
		first(t, api.Vector{9}, names[:i+1], l, name)
		firstNot(t, api.ErrNone, api.Vector{9}, []string{name}, slices.Delete(slices.Clone(l), i, i+1))
	}
}

// P15.2: Order's errors come ahead of there being nobody, and of there being somebody, be they of those that are asked for or not.
func TestFirstRefuses(t *testing.T) {
	good := usage("a", 1)
	for want, wrong := range map[api.Errno]share.Usage{api.ErrForm: usage("b", 1, -1), api.ErrRange: usage("b", 0), api.ErrTwice: usage("a", 2, 1)} {
		for _, l := range [][]share.Usage{{good, wrong}, {wrong, good}, {usage("c", 1), good, usage("d", 1), wrong}} {
			for _, among := range [][]string{nil, {"a"}, {"b"}, {"c"}, {"x"}, {"a", "b", "c", "d"}} {
				firstNot(t, want, api.Vector{9}, among, l)
			}
		}
	}
	firstNot(t, api.ErrForm, api.Vector{0, -1}, []string{"a"}, []share.Usage{good})
	firstNot(t, api.ErrForm, api.Vector{0, -1}, nil, []share.Usage{good})
}
