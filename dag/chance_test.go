package dag_test

import (
	"math/rand"
	"slices"
	"strconv"
	"testing"

	"drover/api"
	"drover/dag"
)

// What becomes of an entry.
const (
	isOpen = iota
	isDone
	isFailed
)

// entry is a job of a plain graph; its parents stand as they were handed in.
type entry struct {
	id      int64
	parents []int64
	fate    int
}

// plain is a graph as the chapter says it: a list of jobs in the order in which they came, that is gone through.
type plain struct{ jobs []entry }

func (m *plain) find(id int64) *entry {
	for i := range m.jobs {
		if m.jobs[i].id == id {
			return &m.jobs[i]
		}
	}
	return nil
}

// descends tells whether the job id descends from above; a circle would have it never end, and there is none.
func (m *plain) descends(id, above int64) bool {
	j := m.find(id)
	if j == nil {
		return false
	}
	for _, parent := range j.parents {
		if parent == above || m.descends(parent, above) {
			return true
		}
	}
	return false
}

func (m *plain) free(id int64) bool {
	j := m.find(id)
	if j == nil || j.fate != isOpen {
		return false
	}
	for _, parent := range j.parents {
		if p := m.find(parent); p == nil || p.fate != isDone {
			return false
		}
	}
	return true
}

func (m *plain) add(id int64, parents ...int64) (bool, api.Errno) {
	for _, n := range append([]int64{id}, parents...) {
		if n < 1 || n > api.MaxJobs {
			return false, api.ErrRange
		}
	}
	if m.find(id) != nil {
		return false, api.ErrTwice
	}
	for _, parent := range parents {
		if parent == id || m.descends(parent, id) {
			return false, api.ErrCycle
		}
	}
	for _, parent := range parents {
		if p := m.find(parent); p != nil && p.fate == isFailed {
			return false, api.ErrState
		}
	}
	m.jobs = append(m.jobs, entry{id: id, parents: slices.Clone(parents)})
	return m.free(id), api.OK
}

func (m *plain) parents(id int64) ([]int64, api.Errno) {
	j := m.find(id)
	if j == nil {
		return nil, api.ErrNone
	}
	var out []int64
	for n := int64(1); n <= api.MaxJobs; n++ {
		if slices.Contains(j.parents, n) {
			out = append(out, n)
		}
	}
	return out, api.OK
}

func (m *plain) done(id int64) ([]int64, api.Errno) {
	if m.find(id) == nil {
		return nil, api.ErrNone
	}
	if !m.free(id) {
		return nil, api.ErrState
	}
	var ahead, out []int64
	for n := int64(1); n <= api.MaxJobs; n++ {
		if m.free(n) {
			ahead = append(ahead, n)
		}
	}
	m.find(id).fate = isDone
	for n := int64(1); n <= api.MaxJobs; n++ {
		if m.free(n) && !slices.Contains(ahead, n) {
			out = append(out, n)
		}
	}
	return out, api.OK
}

func (m *plain) fail(id int64) ([]int64, api.Errno) {
	j := m.find(id)
	if j == nil {
		return nil, api.ErrNone
	}
	if j.fate != isOpen {
		return nil, api.ErrState
	}
	j.fate = isFailed
	var out []int64
	for n := int64(1); n <= api.MaxJobs; n++ {
		if d := m.find(n); d != nil && d.fate == isOpen && m.descends(n, id) {
			d.fate = isFailed
			out = append(out, n)
		}
	}
	return out, api.OK
}

// chances makes arguments by chance: numbers of a window of those that jobs may have.
type chances struct {
	*rand.Rand
	first, wide int64
}

// number is one of the window's, now and then one that no job may have.
func (c chances) number() int64 {
	if c.Intn(60) == 0 {
		return outside[c.Intn(len(outside))]
	}
	return c.first + c.Int63n(c.wide)
}

func (c chances) numbers(most int) []int64 {
	var out []int64
	for range c.Intn(most + 1) {
		out = append(out, c.number())
	}
	return out
}

// alike asks all that can be asked of g, and what the chapter says follows.
func alike(t *testing.T, g *dag.Graph, m *plain) {
	t.Helper()
	for id := int64(0); id <= api.MaxJobs+1; id++ {
		if got, want := g.Free(id), m.free(id); got != want {
			t.Fatalf("Free(%d) = %v, not %v", id, got, want)
		}
		got, e := g.Parents(id)
		if want, e2 := m.parents(id); !slices.Equal(got, want) || e != e2 {
			t.Fatalf("Parents(%d) = %v, %d, not %v, %d", id, got, e, want, e2)
		}
	}
	for _, j := range m.jobs {
		if m.descends(j.id, j.id) {
			t.Fatalf("%d descends from itself", j.id)
		}
		for _, parent := range j.parents {
			if p := m.find(parent); j.fate == isDone && (p == nil || p.fate != isDone) {
				t.Fatalf("%d is done ahead of its parent %d", j.id, parent)
			}
		}
	}
}

// call does one thing by chance to both, and asks that both answer the same.
func call(t *testing.T, c chances, g *dag.Graph, m *plain, most int) {
	t.Helper()
	id := c.number()
	switch n := c.Intn(20); {
	case n < 12:
		parents := c.numbers(most)
		free, e := g.Add(id, parents...)
		if free2, e2 := m.add(id, parents...); free != free2 || e != e2 {
			t.Fatalf("Add(%d, %v) = %v, %d, not %v, %d", id, parents, free, e, free2, e2)
		}
	case n < 18:
		got, e := g.Done(id)
		if want, e2 := m.done(id); !slices.Equal(got, want) || e != e2 {
			t.Fatalf("Done(%d) = %v, %d, not %v, %d", id, got, e, want, e2)
		}
	default:
		got, e := g.Fail(id)
		if want, e2 := m.fail(id); !slices.Equal(got, want) || e != e2 {
			t.Fatalf("Fail(%d) = %v, %d, not %v, %d", id, got, e, want, e2)
		}
	}
}

// P12.1 to P12.4: runs of calls by chance are held at each call against a list that is gone through, of few numbers and of many, at the first ones and the last.
func TestChance(t *testing.T) {
	for seed := range 400 {
		t.Run(strconv.Itoa(seed), func(t *testing.T) {
			wide := [...]int64{2, 3, 5, 8, 15, 30}[seed%6]
			first := [...]int64{1, 50, api.MaxJobs + 1 - wide}[seed/6%3]
			c := chances{rand.New(rand.NewSource(int64(seed))), first, wide}
			g, m := dag.New(), &plain{}
			for range 6 * wide {
				call(t, c, g, m, [...]int{1, 2, 3}[seed/18%3])
				alike(t, g, m)
			}
		})
	}
}

// P12.4: what is free stays so, whatever is called, until it is done or fails.
func TestStaysFree(t *testing.T) {
	for seed := range int64(40) {
		c := chances{rand.New(rand.NewSource(seed)), 1, 12}
		g := dag.New()
		free := map[int64]int{}
		for range 100 {
			id := c.number()
			switch n := c.Intn(10); {
			case n < 6:
				if is, _ := g.Add(id, c.numbers(2)...); is {
					free[id] = 1
				}
			case n < 9:
				freed, e := g.Done(id)
				for _, f := range freed {
					free[f] = 1
				}
				if e == api.OK {
					delete(free, id)
				}
			default:
				fell, e := g.Fail(id)
				for _, f := range fell {
					if free[f] != 0 {
						t.Fatalf("%d was free, though it descends from %d, which was open", f, id)
					}
				}
				if e == api.OK {
					delete(free, id)
				}
			}
			for n := range int64(api.MaxJobs + 2) {
				if got := g.Free(n); got != (free[n] != 0) {
					t.Fatalf("Free(%d) = %v, though it was told otherwise", n, got)
				}
			}
		}
	}
}
