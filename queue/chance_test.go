package queue_test

import (
	"cmp"
	"math/rand"
	"slices"
	"strconv"
	"testing"

	"drover/api"
	"drover/queue"
)

// inOrder is the order of two of one tenant, as the chapter says it.
func inOrder(a, b queue.Waiter) int {
	switch {
	case a.Priority > b.Priority, a.Priority == b.Priority && a.Job < b.Job:
		return -1
	case a == b:
		return 0
	}
	return 1
}

func place(list []queue.Waiter, job int64) int {
	return slices.IndexFunc(list, func(w queue.Waiter) bool { return w.Job == job })
}

// names are the tenants of a list, rising, each once.
func names(list []queue.Waiter) []string {
	var out []string
	for _, w := range list {
		out = append(out, w.Tenant)
	}
	slices.Sort(out)
	return slices.Compact(out)
}

// best is what Top is to answer: by all waiters, not by heads.
func best(list []queue.Waiter) (int64, []string) {
	var most int64
	for _, w := range list {
		most = max(most, w.Priority)
	}
	return most, names(slices.DeleteFunc(slices.Clone(list), func(w queue.Waiter) bool { return w.Priority < most }))
}

// alike asks all that can be asked of q, which is to hold what is in the list of all waiters, and these tenants besides.
func alike(t *testing.T, q *queue.Queue, list []queue.Waiter, others ...string) {
	t.Helper()
	if q.Len() != len(list) {
		t.Fatalf("Len = %d, not %d", q.Len(), len(list))
	}
	for job := int64(-1); job <= most+2; job++ {
		var want queue.Waiter
		err := api.ErrNone
		if i := place(list, job); i >= 0 {
			want, err = list[i], api.OK
		}
		if w, e := q.Get(job); w != want || e != err {
			t.Fatalf("Get(%d) = %s, %d, not %s, %d", job, shown(w), e, shown(want), err)
		}
	}
	for _, tenant := range append(names(list), others...) {
		own := slices.DeleteFunc(slices.Clone(list), func(w queue.Waiter) bool { return w.Tenant != tenant })
		slices.SortFunc(own, inOrder)
		if got := q.List(tenant); !slices.Equal(got, own) {
			t.Fatalf("List(%.20q) = %s, not %s", tenant, shown(got...), shown(own...))
		}
		var want queue.Waiter
		err := api.ErrNone
		if len(own) > 0 {
			want, err = own[0], api.OK
		}
		if w, e := q.Head(tenant); w != want || e != err {
			t.Fatalf("Head(%.20q) = %s, %d, not %s, %d", tenant, shown(w), e, shown(want), err)
		}
	}
	tenants(t, q, names(list)...)
	n, heads := best(list)
	tops(t, q, n, heads...)
}

// pushed is what a Push of w is to answer, and the list behind it.
func pushed(list []queue.Waiter, w queue.Waiter) (api.Errno, []queue.Waiter) {
	switch {
	case w.Job < 1 || w.Job > most || w.Priority < 0 || w.Priority > top:
		return api.ErrRange, list
	case place(list, w.Job) >= 0:
		return api.ErrTwice, list
	}
	return api.OK, append(list, w)
}

// removed is what a Remove of that job is to answer, and the list behind it.
func removed(list []queue.Waiter, job int64) (api.Errno, []queue.Waiter) {
	i := place(list, job)
	if i < 0 {
		return api.ErrNone, list
	}
	return api.OK, slices.Delete(list, i, i+1)
}

// labels are n tenants of few bytes, so that many are unlike by their length alone.
func labels(r *rand.Rand, n int) []string {
	var out []string
	for len(out) < n {
		name := make([]byte, r.Intn(5))
		for i := range name {
			name[i] = "\x00a\x80\xff"[r.Intn(4)]
		}
		if !slices.Contains(out, string(name)) {
			out = append(out, string(name))
		}
	}
	return out
}

// some is a waiter by chance, of few priorities, now and then one that is refused.
func some(r *rand.Rand, jobs, priorities int64, labels []string) queue.Waiter {
	w := waiter(1+r.Int63n(jobs), labels[r.Intn(len(labels))], r.Int63n(priorities))
	if r.Intn(2) == 0 {
		w.Priority = top - w.Priority
	}
	switch r.Intn(60) {
	case 0:
		w.Job = [...]int64{0, -1, most + 1, most + 2}[r.Intn(4)]
	case 1:
		w.Priority = [...]int64{-1, top + 1}[r.Intn(2)]
	}
	return w
}

// P14.1 to P14.3: runs of calls by chance are held at each call against a list of all waiters; each call meets each of its errors.
func TestChance(t *testing.T) {
	type answer struct {
		kind byte
		e    api.Errno
	}
	met := map[answer]int{}
	for seed := range 240 {
		t.Run(strconv.Itoa(seed), func(t *testing.T) {
			r := rand.New(rand.NewSource(int64(seed)))
			labels := labels(r, [...]int{1, 2, 5, 40}[seed%4])
			jobs := [...]int64{6, 30, most}[seed/4%3]
			priorities := [...]int64{1, 3, top + 1}[seed/12%3]
			pushes := 1 + seed/36%5 // of six calls
			q := queue.New()
			var list []queue.Waiter
			for range 250 {
				var x answer
				var want api.Errno
				if r.Intn(6) < pushes {
					w := some(r, jobs, priorities, labels)
					x = answer{'p', q.Push(w)}
					want, list = pushed(list, w)
				} else {
					job := r.Int63n(jobs+2) - 1
					if len(list) > 0 && r.Intn(3) > 0 {
						job = list[r.Intn(len(list))].Job
					}
					x = answer{'r', q.Remove(job)}
					want, list = removed(list, job)
				}
				if x.e != want {
					t.Fatalf("%c = %d, not %d", x.kind, x.e, want)
				}
				met[x]++
				alike(t, q, list, labels...)
			}
		})
	}
	for _, x := range []answer{{'p', api.OK}, {'p', api.ErrRange}, {'p', api.ErrTwice}, {'r', api.OK}, {'r', api.ErrNone}} {
		if met[x] < 100 {
			t.Errorf("only %d calls of %c were answered %d", met[x], x.kind, x.e)
		}
	}
}

// P14.2, P14.3: a queue that is emptied by its heads, the best of all first, and the tenants rising where several have it, gives waiters out in that order, whatever came in between.
func TestChanceHeads(t *testing.T) {
	for seed := range int64(200) {
		r := rand.New(rand.NewSource(seed))
		labels := labels(r, 1+r.Intn(8))
		q := queue.New()
		var list []queue.Waiter
		for q.Len() < 60 {
			w := some(r, most, 4, labels)
			if q.Push(w) == api.OK {
				list = append(list, w)
			}
			if r.Intn(4) == 0 {
				job := list[r.Intn(len(list))].Job
				_, list = removed(list, job)
				remove(t, q, job)
			}
		}
		slices.SortFunc(list, func(a, b queue.Waiter) int {
			if a.Priority == b.Priority && a.Tenant != b.Tenant {
				return cmp.Compare(a.Tenant, b.Tenant)
			}
			return inOrder(a, b)
		})
		for _, want := range list {
			n, heads := q.Top()
			if n != want.Priority || len(heads) == 0 || heads[0] != want.Tenant {
				t.Fatalf("Top = %d, %q, though %s is first", n, heads, shown(want))
			}
			if w, e := q.Head(heads[0]); w != want || e != api.OK {
				t.Fatalf("Head(%q) = %s, %d, not %s", heads[0], shown(w), e, shown(want))
			}
			remove(t, q, want.Job)
		}
		size(t, q, 0)
	}
}
