package ledger_test

import (
	"math/rand"
	"slices"
	"strconv"
	"strings"
	"testing"

	"drover/api"
	"drover/ledger"
)

// record is an account of a plain ledger.
type record struct {
	name        string
	limit, used api.Vector
}

// plain is a ledger as the chapter says it: a list of accounts in the order in which they came, that is gone through.
type plain struct{ list []record }

func (m *plain) place(name string) int {
	return slices.IndexFunc(m.list, func(a record) bool { return a.name == name })
}

func within(v, w api.Vector) bool {
	return v[0] <= w[0] && v[1] <= w[1] && v[2] <= w[2] && v[3] <= w[3]
}

func formed(v api.Vector) bool {
	return within(api.Vector{}, v) && within(v, api.Vector{top, top, top, top})
}

func (m *plain) open(name string, limit api.Vector) api.Errno {
	i := m.place(name)
	switch {
	case !formed(limit):
		return api.ErrForm
	case i >= 0:
		m.list[i].limit = limit
	case len(m.list) == most:
		return api.ErrFull
	default:
		m.list = append(m.list, record{name: name, limit: limit})
	}
	return api.OK
}

func (m *plain) close(name string) api.Errno {
	i := m.place(name)
	switch {
	case i < 0:
		return api.ErrNone
	case m.list[i].used != api.Vector{}:
		return api.ErrState
	}
	m.list = slices.Delete(m.list, i, i+1)
	return api.OK
}

// total answers the sum of all entries of a name, of which there are few enough that it fits by far, and whether there is one.
func total(entries []ledger.Entry, name string) (api.Vector, bool) {
	var sum api.Vector
	some := false
	for _, e := range entries {
		if e.Name == name {
			some = true
			for i, n := range e.Amount {
				sum[i] += n
			}
		}
	}
	return sum, some
}

// change takes (by the sign 1) or gives back (by the sign -1) account by account, on a list of its own.
func (m *plain) change(entries []ledger.Entry, sign int64) api.Errno {
	for _, e := range entries {
		if !formed(e.Amount) {
			return api.ErrForm
		}
	}
	for _, e := range entries {
		if m.place(e.Name) < 0 {
			return api.ErrNone
		}
	}
	list := slices.Clone(m.list)
	for i := range list {
		sum, some := total(entries, list[i].name)
		for j, n := range sum {
			list[i].used[j] += sign * n
		}
		if some && sign > 0 && !within(list[i].used, list[i].limit) {
			return api.ErrQuota
		}
		if some && sign < 0 && !within(api.Vector{}, list[i].used) {
			return api.ErrRange
		}
	}
	m.list = list
	return api.OK
}

// alike asks all that can be asked of l, and what the chapter says follows.
func alike(t *testing.T, l *ledger.Ledger, m *plain, names []string) {
	t.Helper()
	var want []string
	for _, a := range m.list {
		want = append(want, a.name)
	}
	slices.Sort(want)
	named(t, l, want...)
	for _, name := range names {
		i := m.place(name)
		if i >= 0 {
			has(t, l, name, m.list[i].limit, m.list[i].used)
			continue
		}
		if v, e := l.Used(name); v != (api.Vector{}) || e != api.ErrNone {
			t.Fatalf("Used(%q) = %v, %d, not ErrNone", name, v, e)
		}
		if v, e := l.Left(name); v != (api.Vector{}) || e != api.ErrNone {
			t.Fatalf("Left(%q) = %v, %d, not ErrNone", name, v, e)
		}
	}
}

// chances makes arguments by chance.
type chances struct {
	*rand.Rand
	names []string
	wide  int64
}

func (c chances) name() string {
	return c.names[c.Intn(len(c.names))]
}

// amounts are few, mostly, and now and then none that are formed.
func (c chances) amounts() api.Vector {
	var v api.Vector
	for i := range v {
		switch c.Intn(4) {
		case 0:
			v[i] = c.Int63n(c.wide + 1)
		case 1:
			v[i] = c.Int63n(c.wide/4 + 1)
		}
	}
	if c.Intn(80) == 0 {
		v[c.Intn(4)] = [...]int64{-1, top + 1}[c.Intn(2)]
	}
	return v
}

func (c chances) limit() api.Vector {
	v := c.amounts()
	for i := range v {
		if c.Intn(2) == 0 {
			v[i] = c.wide
		}
	}
	return v
}

// entries are mostly of accounts that are there, so that several are often of one, and not often refused.
func (c chances) entries(m *plain) []ledger.Entry {
	var list []ledger.Entry
	for range c.Intn(5) {
		e := ledger.Entry{Name: c.name(), Amount: c.amounts()}
		if len(m.list) > 0 && c.Intn(20) > 0 {
			e.Name = m.list[c.Intn(len(m.list))].name
		}
		list = append(list, e)
	}
	return list
}

// exact are entries that say of some accounts just what is left or used, in several pieces, now and then one more.
func (c chances) exact(m *plain, give bool) []ledger.Entry {
	var list []ledger.Entry
	for _, a := range m.list {
		if c.Intn(3) > 0 {
			continue
		}
		one, other := ledger.Entry{Name: a.name}, ledger.Entry{Name: a.name}
		for i, n := range a.used {
			if !give {
				n = max(0, a.limit[i]-n)
			}
			one.Amount[i] = c.Int63n(n + 1)
			other.Amount[i] = n - one.Amount[i]
		}
		if c.Intn(15) == 0 {
			one.Amount[c.Intn(4)]++
		}
		list = append(list, one, other)
	}
	c.Shuffle(len(list), func(i, j int) { list[i], list[j] = list[j], list[i] })
	return list
}

// call does one thing by chance to both, and asks that both answer the same. It answers the error.
func call(t *testing.T, c chances, l *ledger.Ledger, m *plain, calls string) (byte, api.Errno) {
	t.Helper()
	name, limit := c.name(), c.limit()
	kind := calls[c.Intn(len(calls))]
	var entries []ledger.Entry
	var got, want api.Errno
	switch kind {
	case 'o':
		got, want = l.Open(name, limit), m.open(name, limit)
	case 'c':
		got, want = l.Close(name), m.close(name)
	case 't', 'T':
		if entries = c.entries(m); kind == 'T' {
			entries = c.exact(m, false)
		}
		got, want = l.Take(entries...), m.change(entries, 1)
	default:
		if entries = c.entries(m); kind == 'G' {
			entries = c.exact(m, true)
		}
		got, want = l.Give(entries...), m.change(entries, -1)
	}
	if got != want {
		t.Fatalf("%c of %q, %v, %+v = %d, not %d", kind, name, limit, entries, got, want)
	}
	return kind, got
}

// labels are n names of few bytes, so that many are unlike by their length alone.
func labels(r *rand.Rand, n int) []string {
	var out []string
	for len(out) < n {
		name := make([]byte, r.Intn(6))
		for i := range name {
			name[i] = "\x00a\x80\xff"[r.Intn(4)]
		}
		if !slices.Contains(out, string(name)) {
			out = append(out, string(name))
		}
	}
	return out
}

// P13.1 to P13.4: runs of calls by chance are held at each call against a list of accounts; each call meets each of its errors.
func TestChance(t *testing.T) {
	mixes := []string{"ocTtGg", "oocTTtttGgg", "ttttggggoc", "ooooccccTG", "ocTTTGGG"}
	type answer struct {
		kind byte
		e    api.Errno
	}
	met := map[answer]int{}
	for seed := range 300 {
		t.Run(strconv.Itoa(seed), func(t *testing.T) {
			r := rand.New(rand.NewSource(int64(seed)))
			names := labels(r, [...]int{2, 5, 20, 90}[seed/len(mixes)%4])
			c := chances{r, names, [...]int64{3, 20, 1000, top}[seed/len(mixes)/4%4]}
			l, m := ledger.New(), &plain{}
			for range 200 {
				kind, e := call(t, c, l, m, mixes[seed%len(mixes)])
				met[answer{kind, e}]++
				alike(t, l, m, names)
			}
		})
	}
	for _, x := range []answer{
		{'o', api.OK}, {'o', api.ErrForm}, {'c', api.OK}, {'c', api.ErrNone}, {'c', api.ErrState},
		{'t', api.OK}, {'t', api.ErrForm}, {'t', api.ErrNone}, {'t', api.ErrQuota}, {'T', api.OK}, {'T', api.ErrQuota},
		{'g', api.OK}, {'g', api.ErrForm}, {'g', api.ErrNone}, {'g', api.ErrRange}, {'G', api.OK}, {'G', api.ErrRange},
	} {
		if met[x] < 20 {
			t.Errorf("only %d calls of %c were answered %d", met[x], x.kind, x.e)
		}
	}
}

// P13.1: runs of calls by chance where the ledger is mostly full.
func TestChanceFull(t *testing.T) {
	for seed := range 8 {
		r := rand.New(rand.NewSource(int64(seed)))
		names := labels(r, most+most/2)
		c := chances{r, names, 20}
		l, m := ledger.New(), &plain{}
		full := 0
		for range 2000 {
			if kind, e := call(t, c, l, m, strings.Repeat("o", 12)+"cTtGGg"); kind == 'o' && e == api.ErrFull {
				full++
			}
			alike(t, l, m, names)
		}
		if full < 100 {
			t.Fatalf("the ledger was full at %d calls of Open", full)
		}
	}
}

// P13.4: what was taken and given back, in whatever pieces and order, leaves a ledger as it was.
func TestTakenAndGivenBack(t *testing.T) {
	for seed := range 100 {
		r := rand.New(rand.NewSource(int64(seed)))
		c := chances{r, labels(r, 12), [...]int64{5, 50, top}[seed%3]}
		l, m := ledger.New(), &plain{}
		for range 60 {
			call(t, c, l, m, "ooTtGg")
		}
		before := look(l)
		var out []ledger.Entry
		for range 40 {
			entries := c.exact(m, false)
			if c.Intn(3) > 0 {
				entries = c.entries(m)
			}
			if l.Take(entries...) == api.OK {
				out = append(out, entries...)
			}
		}
		c.Shuffle(len(out), func(i, j int) { out[i], out[j] = out[j], out[i] })
		for len(out) > 0 {
			n := 1 + c.Intn(len(out))
			gives(t, l, out[:n]...)
			out = out[n:]
		}
		if !slices.Equal(look(l), before) {
			t.Fatalf("by the seed %d the ledger is another", seed)
		}
	}
}
