package queue

import (
	"math/rand"
	"strconv"
	"testing"

	"drover/api"
)

// sound asks of q that each waiter's handle is that of its key in its tenant's heap, that heaps have nothing else, and that none is empty.
func sound(t *testing.T, q *Queue) {
	t.Helper()
	entries := 0
	for tenant, heap := range q.heaps {
		if heap.Len() == 0 {
			t.Fatalf("%q has a heap, but no waiters", tenant)
		}
		entries += heap.Len()
	}
	if entries != len(q.waiters) {
		t.Fatalf("%d waiters, but %d entries", len(q.waiters), entries)
	}
	for job, h := range q.waiters {
		if h.Job != job {
			t.Fatalf("job %d stands as %d", h.Job, job)
		}
		if k, e := q.heaps[h.Tenant].Get(h.handle); k != h.key() || e != api.OK {
			t.Fatalf("job %d has the key %v, but its handle's is %v, %d", job, h.key(), k, e)
		}
	}
}

// P14.1, P14.2: behind each call each waiter is found in its tenant's heap by its handle.
func TestShape(t *testing.T) {
	for seed := range int64(60) {
		r := rand.New(rand.NewSource(seed))
		q := New()
		for step := range 600 {
			job := r.Int63n(api.MaxJobs + 2)
			if step < 50 || r.Intn(2) == 0 {
				q.Push(Waiter{Job: job, Tenant: strconv.Itoa(r.Intn(12)), Priority: r.Int63n(9) - 1})
			} else {
				q.Remove(job)
			}
			sound(t, q)
		}
	}
}

// P14.2: waiters that stand in a new heap are found there as in the old one, and those of other tenants are left where they are.
func TestRenew(t *testing.T) {
	q := New()
	for job := range int64(9) {
		q.Push(Waiter{Job: job + 1, Tenant: strconv.Itoa(int(job % 2)), Priority: job % 4})
	}
	q.Remove(1)
	q.Remove(5)
	other := q.heaps["1"]
	before := q.List("0")
	q.renew("0")
	sound(t, q)
	if q.heaps["1"] != other {
		t.Fatal("the heap of another tenant is new")
	}
	for i, w := range q.List("0") {
		if w != before[i] {
			t.Fatalf("%v is %v now", before[i], w)
		}
	}
	for _, w := range before {
		if head, e := q.Head("0"); head != w || e != api.OK {
			t.Fatalf("Head = %v, %d, not %v", head, e, w)
		}
		q.Remove(w.Job)
		sound(t, q)
	}
}

// P14.1: nothing is kept of what was removed.
func TestRemovedIsGone(t *testing.T) {
	q := New()
	for i := range 1000 {
		q.Push(Waiter{Job: int64(i%api.MaxJobs) + 1, Tenant: strconv.Itoa(i)})
		if e := q.Remove(int64(i%api.MaxJobs) + 1); e != api.OK || len(q.waiters) != 0 || len(q.heaps) != 0 {
			t.Fatalf("Remove = %d, %d waiters, %d heaps", e, len(q.waiters), len(q.heaps))
		}
	}
}

// P14.2, P14.3, R4: asking, and what is refused, leave the queue as it was, and keep nothing of what was asked for.
func TestAskingLeaves(t *testing.T) {
	q := New()
	q.Push(Waiter{Job: 1, Tenant: "a", Priority: 5})
	one, heap := *q.waiters[1], q.heaps["a"]
	for _, tenant := range []string{"a", "b", ""} {
		q.Head(tenant)
		q.List(tenant)
		q.Tenants()
		q.Top()
		q.Get(1)
		q.Get(2)
		q.Remove(2)
		q.Push(Waiter{Job: 1, Tenant: tenant, Priority: 6})
		q.Push(Waiter{Job: 0, Tenant: tenant})
		q.Push(Waiter{Job: 2, Tenant: tenant, Priority: -1})
	}
	sound(t, q)
	if len(q.waiters) != 1 || *q.waiters[1] != one || len(q.heaps) != 1 || q.heaps["a"] != heap {
		t.Fatal("asking has changed the queue")
	}
}
