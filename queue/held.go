package queue

import (
	"slices"
	"strings"

	"drover/api"
	"drover/minmax"
)

// Each tenant of whom jobs wait has a heap of its waiters' keys, whose least one is the head's. A tenant without waiters has none.

// held is a waiter, and its handle in its tenant's heap.
type held struct {
	Waiter
	handle int
}

// key is less, the earlier the waiter comes. No two are alike, as jobs are not.
func (h *held) key() minmax.Key {
	return minmax.Key{-h.Priority, h.Job}
}

// jobOf is the job of the waiter with that key.
func jobOf(k minmax.Key) int64 {
	return k[1]
}

// earlier is below 0, if a comes ahead of b.
func earlier(a, b *held) int {
	first, second := a.key(), b.key()
	return slices.Compare(first[:], second[:])
}

// find answers nil, if that job doesn't wait.
func (q *Queue) find(job int64) *held {
	if q == nil {
		return nil
	}
	return q.waiters[job]
}

// line answers all of that tenant's, in order.
func (q *Queue) line(tenant string) []*held {
	if q == nil {
		return nil
	}
	var all []*held
	for _, h := range q.waiters {
		if h.Tenant == tenant {
			all = append(all, h)
		}
	}
	slices.SortFunc(all, earlier)
	return all
}

// add has w wait, whose job doesn't wait yet.
func (q *Queue) add(w Waiter) {
	if q.waiters == nil {
		q.waiters = map[int64]*held{}
		q.heaps = map[string]*minmax.Heap{}
	}
	// Cloned, as a tenant that is cut out of a greater text would keep all of that.
	w.Tenant = strings.Clone(w.Tenant)
	h := &held{Waiter: w}
	q.waiters[w.Job] = h
	handle, err := q.heaps[w.Tenant].Insert(h.key())
	if err != api.OK {
		// There is no heap of this tenant yet, or one that has no handle left, however few still wait there.
		q.renew(w.Tenant)
		return
	}
	h.handle = handle
}

// renew has all of that tenant's stand in a new heap.
func (q *Queue) renew(tenant string) {
	heap := minmax.New()
	for _, h := range q.line(tenant) {
		h.handle, _ = heap.Insert(h.key())
	}
	q.heaps[tenant] = heap
}

func (q *Queue) drop(h *held) {
	heap := q.heaps[h.Tenant]
	heap.Remove(h.handle)
	if heap.Len() == 0 {
		delete(q.heaps, h.Tenant)
	}
	delete(q.waiters, h.Job)
}
