package ledger

import (
	"maps"
	"math/rand"
	"strconv"
	"testing"

	"drover/api"
	"drover/vector"
)

// values are a ledger's accounts as they stand, of which a later call changes nothing.
func values(l *Ledger) map[string]account {
	out := map[string]account{}
	for name, a := range l.accounts {
		out[name] = *a
	}
	return out
}

// P13.1 to P13.3, R4: behind each call limits and what is used are formed, and what is used is within the limit, but where that was made less; behind one that answers an error the ledger is as it was, also where that doesn't show.
func TestShape(t *testing.T) {
	for seed := range int64(60) {
		r := rand.New(rand.NewSource(seed))
		name := func() string { return strconv.Itoa(r.Intn(70)) }
		some := func(most int64) api.Vector {
			return api.Vector{r.Int63n(most), r.Int63n(most), r.Int63n(most) - 1, r.Int63n(most)}
		}
		l := New()
		over := map[string]int{} // accounts whose limit was made less than what was used
		for range 400 {
			before := values(l)
			var e api.Errno
			switch n := r.Intn(20); {
			case n < 8:
				at := name()
				e = l.Open(at, some(40))
				if a := l.accounts[at]; e == api.OK && !vector.Fits(a.used, a.limit) {
					over[at] = 1
				}
			case n < 10:
				e = l.Close(name())
			case n < 16:
				e = l.Take(Entry{name(), some(20)}, Entry{name(), some(20)})
			default:
				e = l.Give(Entry{name(), some(10)}, Entry{name(), some(10)})
			}
			if e != api.OK && !maps.Equal(values(l), before) {
				t.Fatalf("behind the error %d the ledger is another", e)
			}
			for at, a := range l.accounts {
				if !vector.Formed(a.limit) || !vector.Formed(a.used) {
					t.Fatalf("%q has the limit %v, of which %v is used", at, a.limit, a.used)
				}
				if vector.Fits(a.used, a.limit) {
					delete(over, at)
				} else if over[at] == 0 {
					t.Fatalf("of %q %v is used, though its limit is %v and was not made less", at, a.used, a.limit)
				}
			}
		}
	}
}

// P13.1, P13.2: asking leaves the ledger as it was, and keeps nothing of what was asked for.
func TestAskingLeaves(t *testing.T) {
	l := New()
	l.Open("a", api.Vector{4})
	l.Take(Entry{"a", api.Vector{3}})
	before := values(l)
	for _, name := range []string{"a", "b", ""} {
		l.Used(name)
		l.Left(name)
		l.Names()
		l.Take(Entry{Name: name, Amount: api.Vector{2}})
		l.Give(Entry{Name: name, Amount: api.Vector{4}})
	}
	if !maps.Equal(values(l), before) {
		t.Fatal("asking has changed the ledger")
	}
}

// P13.1: nothing is kept of an account that was closed.
func TestClosedIsGone(t *testing.T) {
	l := New()
	for i := range 1000 {
		name := strconv.Itoa(i)
		l.Open(name, api.Vector{4})
		l.Take(Entry{name, api.Vector{3}})
		l.Give(Entry{name, api.Vector{3}})
		if e := l.Close(name); e != api.OK || len(l.accounts) != 0 {
			t.Fatalf("Close = %d, %d accounts", e, len(l.accounts))
		}
	}
}
