package share_test

import (
	"math/big"
	"math/rand"
	"slices"
	"strconv"
	"testing"

	"drover/api"
	"drover/share"
)

func unformed(v api.Vector) bool {
	return slices.Min(v[:]) < 0 || slices.Max(v[:]) > top
}

// part is a tenant's share, reckoned without the packages below.
func part(whole api.Vector, u share.Usage) *big.Rat {
	most := new(big.Rat)
	for i, n := range whole {
		if n == 0 {
			continue
		}
		if p := big.NewRat(u.Used[i], n*u.Weight); p.Cmp(most) > 0 {
			most = p
		}
	}
	return most
}

// fault is the error that Order is to answer.
func fault(whole api.Vector, l []share.Usage) api.Errno {
	for _, u := range l {
		if unformed(whole) || unformed(u.Used) {
			return api.ErrForm
		}
		if u.Weight < 1 || u.Weight > heaviest {
			return api.ErrRange
		}
	}
	for i, u := range l {
		if slices.Contains(namesOf(l[:i]), u.Name) {
			return api.ErrTwice
		}
	}
	return api.OK
}

// foremost goes through the list for who comes ahead of all that were met: the place.
func foremost(whole api.Vector, l []share.Usage) int {
	best := 0
	for i, u := range l {
		c := part(whole, u).Cmp(part(whole, l[best]))
		if c < 0 || c == 0 && u.Name < l[best].Name {
			best = i
		}
	}
	return best
}

// listed is the order of tenants of usages without fault: the foremost one is taken off the list, again and again.
func listed(whole api.Vector, l []share.Usage) []string {
	var out []string
	for l = slices.Clone(l); len(l) > 0; {
		i := foremost(whole, l)
		out = append(out, l[i].Name)
		l = slices.Delete(l, i, i+1)
	}
	return out
}

// held holds both calls against the list, and answers the errors of both.
func held(t *testing.T, whole api.Vector, among []string, l []share.Usage) (api.Errno, api.Errno) {
	t.Helper()
	if e := fault(whole, l); e != api.OK {
		refused(t, e, whole, l...)
		firstNot(t, e, whole, among, l)
		return e, e
	}
	inOrder(t, whole, l, listed(whole, l)...)
	those := slices.DeleteFunc(slices.Clone(l), func(u share.Usage) bool { return !slices.Contains(among, u.Name) })
	if len(those) == 0 {
		firstNot(t, api.ErrNone, whole, among, l)
		return api.OK, api.ErrNone
	}
	first(t, whole, among, l, those[foremost(whole, those)].Name)
	return api.OK, api.OK
}

// amounts is a vector by chance of few numbers, or of numbers near both limits, now and then one that isn't formed.
func amounts(r *rand.Rand, wrong int) api.Vector {
	var v api.Vector
	for i := range v {
		switch r.Intn(6) {
		case 0:
			v[i] = top - r.Int63n(3)
		case 1:
			v[i] = r.Int63n(top + 1)
		default:
			v[i] = r.Int63n(5)
		}
	}
	if r.Intn(wrong) == 0 {
		v[r.Intn(4)] = [...]int64{-1, top + 1}[r.Intn(2)]
	}
	return v
}

// label is a name of few bytes, so that some are alike, and many unlike by their length alone.
func label(r *rand.Rand, long int) string {
	name := make([]byte, r.Intn(long+1))
	for i := range name {
		name[i] = "\x00a\x80\xff"[r.Intn(4)]
	}
	return string(name)
}

func someUsage(r *rand.Rand, long, wrong int) share.Usage {
	u := share.Usage{Name: label(r, long), Weight: 1 + r.Int63n(3), Used: amounts(r, wrong)}
	if r.Intn(4) == 0 {
		u.Weight = heaviest - r.Int63n(3)
	}
	if r.Intn(wrong) == 0 {
		u.Weight = [...]int64{0, heaviest + 1}[r.Intn(2)]
	}
	return u
}

// P15.1, P15.2: usages by chance are held against a list that is gone through; each error is met, of both calls.
func TestChance(t *testing.T) {
	orderMet, firstMet := map[api.Errno]int{}, map[api.Errno]int{}
	for seed := range 60 {
		t.Run(strconv.Itoa(seed), func(t *testing.T) {
			r := rand.New(rand.NewSource(int64(seed)))
			long := [...]int{2, 4, 8}[seed%3]
			wrong := [...]int{20, 200}[seed/3%2]
			for range 150 {
				var l []share.Usage
				for range r.Intn(9) {
					l = append(l, someUsage(r, long, wrong))
				}
				var among []string
				for range r.Intn(6) {
					if len(l) > 0 && r.Intn(2) == 0 {
						among = append(among, l[r.Intn(len(l))].Name)
					} else {
						among = append(among, label(r, long))
					}
				}
				o, f := held(t, amounts(r, 2*wrong), among, l)
				orderMet[o]++
				firstMet[f]++
			}
		})
	}
	for _, e := range []api.Errno{api.OK, api.ErrForm, api.ErrRange, api.ErrTwice, api.ErrNone} {
		if firstMet[e] < 100 || orderMet[e] < 100 && e != api.ErrNone {
			t.Errorf("only %d and %d calls were answered %d", orderMet[e], firstMet[e], e)
		}
	}
}

// P15.1, P15.2: all pairs of usages with small numbers, in every small whole.
func TestSmall(t *testing.T) {
	var small []share.Usage
	for n := range int64(27) {
		small = append(small, usage("", 1+n%3, n/3%3, n/9))
	}
	for w := range int64(9) {
		for _, x := range small {
			for _, y := range small {
				x.Name, y.Name = "x", "y"
				held(t, api.Vector{w % 3, w / 3}, []string{"y"}, []share.Usage{x, y})
				x.Name = "y"
				held(t, api.Vector{w % 3, w / 3}, []string{"y"}, []share.Usage{x, y})
			}
		}
	}
}
