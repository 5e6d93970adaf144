package worker_test

import (
	"math/rand"
	"slices"
	"strconv"
	"strings"
	"testing"
	"unicode/utf8"

	"drover/api"
	"drover/worker"
)

// plain is a table as the chapter says it: a list of nodes in the order in which they came, that is gone through.
type plain struct{ list []api.Node }

func (p *plain) place(name string) int {
	return slices.IndexFunc(p.list, func(n api.Node) bool { return n.Name == name })
}

func isName(name string) bool {
	if !utf8.ValidString(name) {
		return false
	}
	n := utf8.RuneCountInString(name)
	return n >= 1 && n <= api.MaxName && strings.Trim(name, "abcdefghijklmnopqrstuvwxyz0123456789-_αβγδεζηθικλμνξοπρςστυφχψω") == ""
}

func formed(v api.Vector) bool {
	return slices.Min(v[:]) >= 0 && slices.Max(v[:]) <= top
}

func (p *plain) register(name string, epoch int64, capacity api.Vector, now int64) (bool, api.Errno) {
	i := p.place(name)
	switch {
	case !isName(name), !formed(capacity):
		return false, api.ErrForm
	case epoch < 1, epoch > last, now < 0, now > end:
		return false, api.ErrRange
	case i >= 0 && epoch <= p.list[i].Epoch:
		return false, api.ErrStale
	case i < 0 && len(p.list) == most:
		return false, api.ErrFull
	}
	n := api.Node{Name: name, Epoch: epoch, Capacity: capacity, Seen: now, Live: true}
	if i < 0 {
		p.list = append(p.list, n)
		return false, api.OK
	}
	was := p.list[i].Live
	p.list[i] = n
	return was, api.OK
}

func (p *plain) beat(name string, epoch, now int64) api.Errno {
	i := p.place(name)
	switch {
	case i < 0:
		return api.ErrNone
	case epoch != p.list[i].Epoch, !p.list[i].Live:
		return api.ErrStale
	case now < p.list[i].Seen, now > end:
		return api.ErrRange
	}
	p.list[i].Seen = now
	return api.OK
}

func (p *plain) expire(now int64) []string {
	var gone []string
	for i, n := range p.list {
		if n.Live && n.Seen+lease <= now {
			p.list[i].Live = false
			gone = append(gone, n.Name)
		}
	}
	slices.Sort(gone)
	return gone
}

func (p *plain) all() []api.Node {
	return slices.SortedFunc(slices.Values(p.list), func(a, b api.Node) int { return strings.Compare(a.Name, b.Name) })
}

// chances makes arguments by chance, mostly such as are taken.
type chances struct {
	*rand.Rand
	names []string
	now   int64
}

func (c *chances) name() string {
	if c.Intn(60) == 0 {
		return notNames()[c.Intn(len(notNames()))]
	}
	return c.names[c.Intn(len(c.names))]
}

// tick is that of now, mostly, or one near it; now and then one that is none.
func (c *chances) tick() int64 {
	switch c.Intn(12) {
	case 0:
		return c.now - int64(c.Intn(2*lease))
	case 1:
		return c.now + int64(c.Intn(lease))
	case 2:
		if c.Intn(4) == 0 {
			return notTicks()[c.Intn(len(notTicks()))]
		}
	}
	return c.now
}

// epoch is that of the node, mostly, or near it.
func (c *chances) epoch(p *plain, name string) int64 {
	if c.Intn(60) == 0 {
		return notEpochs()[c.Intn(len(notEpochs()))]
	}
	var own int64
	if i := p.place(name); i >= 0 {
		own = p.list[i].Epoch
	}
	switch c.Intn(6) {
	case 0:
		return own - 1
	case 1:
		return own + 1
	}
	return own
}

func (c *chances) capacity() api.Vector {
	v := api.Vector{c.Int63n(10), c.Int63n(top + 1), c.Int63n(top / 6), top}
	if c.Intn(40) == 0 {
		v[c.Intn(4)] = [...]int64{-1, top + 1}[c.Intn(2)]
	}
	return v
}

// answer is a call's kind, and what was answered: an error, whether a node was live, how many were lost.
type answer struct {
	kind byte
	e    api.Errno
	n    int
}

func count(was bool) int {
	if was {
		return 1
	}
	return 0
}

// call does one thing by chance to both, and asks that both answer the same.
func call(t *testing.T, c *chances, w *worker.Table, p *plain, calls string) answer {
	t.Helper()
	name, now := c.name(), c.tick()
	epoch := c.epoch(p, name)
	switch kind := calls[c.Intn(len(calls))]; kind {
	case 'r', 'R':
		capacity := c.capacity()
		if kind == 'R' {
			epoch++
		}
		was, e := w.Register(name, epoch, capacity, now)
		if was2, e2 := p.register(name, epoch, capacity, now); was != was2 || e != e2 {
			t.Fatalf("Register(%.20q, %d, %v, %d) = %t, %d, not %t, %d", name, epoch, capacity, now, was, e, was2, e2)
		}
		return answer{'r', e, count(was)}
	case 'b':
		e := w.Beat(name, epoch, now)
		if e2 := p.beat(name, epoch, now); e != e2 {
			t.Fatalf("Beat(%.20q, %d, %d) = %d, not %d", name, epoch, now, e, e2)
		}
		return answer{'b', e, 0}
	case 'e':
		gone := w.Expire(now)
		if want := p.expire(now); !slices.Equal(gone, want) {
			t.Fatalf("Expire(%d) = %q, not %q", now, gone, want)
		}
		return answer{'e', api.OK, min(len(gone), 2)}
	default:
		c.now = min(c.now+int64(c.Intn(3)), end)
		return answer{}
	}
}

// P19.1 to P19.3: runs of calls by chance are held at each call against a list of nodes; each call meets each of its answers.
func TestChance(t *testing.T) {
	mixes := []string{"rRbbett", "RbbbbbbbetT", "RRrrbet", "Rbtttttte", "RRRbbbttttttttee", "RbbbbbbbbbbbbbbbbbbbbtttetRr"}
	met := map[answer]int{}
	for seed := range 240 {
		t.Run(strconv.Itoa(seed), func(t *testing.T) {
			r := rand.New(rand.NewSource(int64(seed)))
			few := r.Perm(len(names()))[:[...]int{2, 6, 16}[seed/len(mixes)%3]]
			c := &chances{Rand: r, now: [...]int64{0, 1000, end - 100}[seed/len(mixes)/3%3]}
			for _, i := range few {
				c.names = append(c.names, names()[i])
			}
			w, p := worker.New(), &plain{}
			for range 300 {
				met[call(t, c, w, p, mixes[seed%len(mixes)])]++
				holds(t, w, p.all()...)
			}
		})
	}
	for _, x := range []answer{
		{'r', api.OK, 0}, {'r', api.OK, 1}, {'r', api.ErrForm, 0}, {'r', api.ErrRange, 0}, {'r', api.ErrStale, 0}, {'r', api.ErrFull, 0},
		{'b', api.OK, 0}, {'b', api.ErrNone, 0}, {'b', api.ErrStale, 0}, {'b', api.ErrRange, 0},
		{'e', api.OK, 0}, {'e', api.OK, 1}, {'e', api.OK, 2},
	} {
		if met[x] < 100 {
			t.Errorf("only %d calls of %c were answered %d, %d", met[x], x.kind, x.e, x.n)
		}
	}
}
