package queue_test

import (
	"fmt"
	"math"
	"slices"
	"strings"
	"testing"
	"unsafe"

	"drover/api"
	"drover/queue"
)

const (
	most = api.MaxJobs
	top  = api.MaxPriority
)

// noJobs are numbers that no job has: just outside of what is allowed, and far from it.
func noJobs() []int64 {
	return []int64{0, -1, most + 1, -most, 2 * most, 1 << 32, 1<<32 + 1, -1<<32 + 1, math.MinInt64, math.MinInt64 + 1, math.MaxInt64}
}

// noPriorities are numbers that no priority is: just outside of what is allowed, and far from it.
func noPriorities() []int64 {
	return []int64{-1, top + 1, -top, 2 * top, 1 << 32, -1 << 32, math.MinInt64, math.MaxInt64}
}

// strange are texts that any tenant may have as its name, though most are no names, and some no texts; rising.
func strange() []string {
	long := strings.Repeat("x", 100000)
	return []string{"", "\x00", "\x00\x00", "\n", "\x1b", " ", `"`, "A", "Tenant", `\`, "a", "a\x00b", "a\x00c", "a b", "aa", "ab", "b", "node-1", long, long + "y", "\x7f", "\x80", "\xc3", "é", "α", "\u2028", "\xed\xa0\x80", "\uffff", "\U00010000", "\U0010ffff", "\xff", "\xff\xfe"}
}

func waiter(job int64, tenant string, priority int64) queue.Waiter {
	return queue.Waiter{Job: job, Tenant: tenant, Priority: priority}
}

// of is a queue of these waiters, pushed one behind the other.
func of(t *testing.T, list ...queue.Waiter) *queue.Queue {
	t.Helper()
	q := queue.New()
	for _, w := range list {
		push(t, q, w)
	}
	return q
}

// push pushes w, and asks that it waits.
func push(t *testing.T, q *queue.Queue, w queue.Waiter) {
	t.Helper()
	n := q.Len()
	if e := q.Push(w); e != api.OK {
		t.Fatalf("Push(%s) = %d", shown(w), e)
	}
	size(t, q, n+1)
	waits(t, q, w)
}

// remove removes a job, and asks that it waits no more.
func remove(t *testing.T, q *queue.Queue, job int64) {
	t.Helper()
	n := q.Len()
	if e := q.Remove(job); e != api.OK {
		t.Fatalf("Remove(%d) = %d", job, e)
	}
	size(t, q, n-1)
	waitsNot(t, q, job)
}

func size(t *testing.T, q *queue.Queue, want int) {
	t.Helper()
	if n := q.Len(); n != want {
		t.Fatalf("Len = %d, not %d", n, want)
	}
}

func waits(t *testing.T, q *queue.Queue, want queue.Waiter) {
	t.Helper()
	if w, e := q.Get(want.Job); w != want || e != api.OK {
		t.Fatalf("Get(%d) = %s, %d, not %s", want.Job, shown(w), e, shown(want))
	}
	if list := q.List(want.Tenant); !slices.Contains(list, want) {
		t.Fatalf("List(%.20q) has no job %d", want.Tenant, want.Job)
	}
}

// waitsNot asks that these jobs don't wait, by every call that says so.
func waitsNot(t *testing.T, q *queue.Queue, jobs ...int64) {
	t.Helper()
	for _, job := range jobs {
		if w, e := q.Get(job); w != (queue.Waiter{}) || e != api.ErrNone {
			t.Fatalf("Get(%d) = %s, %d, not ErrNone", job, shown(w), e)
		}
		stays(t, q, api.ErrNone, "Remove", func() api.Errno { return q.Remove(job) })
		for _, w := range look(q) {
			if w.Job == job {
				t.Fatalf("job %d is listed", job)
			}
		}
	}
}

// look is all that a queue tells of its waiters, tenant by tenant.
func look(q *queue.Queue) []queue.Waiter {
	var all []queue.Waiter
	for _, tenant := range q.Tenants() {
		all = append(all, q.List(tenant)...)
	}
	return all
}

// stays asks that a call is refused so, and that the queue is as it was.
func stays(t *testing.T, q *queue.Queue, want api.Errno, what string, call func() api.Errno) {
	t.Helper()
	before, n := look(q), q.Len()
	if e := call(); e != want {
		t.Fatalf("%s = %d, not %d", what, e, want)
	}
	if !slices.Equal(look(q), before) || q.Len() != n {
		t.Fatalf("%s was refused by %d, but has changed the queue", what, want)
	}
}

func pushesNot(t *testing.T, q *queue.Queue, want api.Errno, list ...queue.Waiter) {
	t.Helper()
	for _, w := range list {
		stays(t, q, want, "Push", func() api.Errno { return q.Push(w) })
	}
}

// shown is waiters as text, of their tenants no more than the beginning.
func shown(list ...queue.Waiter) string {
	var out string
	for _, w := range list {
		out += fmt.Sprintf("{%d %.20q %d}", w.Job, w.Tenant, w.Priority)
	}
	return out
}

// empty asks every call of a queue without waiters, but Push.
func empty(t *testing.T, q *queue.Queue) {
	t.Helper()
	size(t, q, 0)
	waitsNot(t, q, noJobs()...)
	for job := range int64(most) {
		waitsNot(t, q, job+1)
	}
	for _, tenant := range strange() {
		without(t, q, tenant)
	}
	tenants(t, q)
	tops(t, q, 0)
}

// without asks that no job of that tenant waits.
func without(t *testing.T, q *queue.Queue, tenant string) {
	t.Helper()
	if w, e := q.Head(tenant); w != (queue.Waiter{}) || e != api.ErrNone {
		t.Fatalf("Head(%.20q) = %s, %d, not ErrNone", tenant, shown(w), e)
	}
	if list := q.List(tenant); len(list) != 0 {
		t.Fatalf("List(%.20q) has %d", tenant, len(list))
	}
	if slices.Contains(q.Tenants(), tenant) {
		t.Fatalf("Tenants has %.20q", tenant)
	}
	if _, l := q.Top(); slices.Contains(l, tenant) {
		t.Fatalf("Top has %.20q", tenant)
	}
}

// lists asks that these jobs wait for that tenant, and no others, in that order.
func lists(t *testing.T, q *queue.Queue, tenant string, jobs ...int64) {
	t.Helper()
	var got []int64
	for _, w := range q.List(tenant) {
		if w.Tenant != tenant {
			t.Fatalf("List(%.20q) has one of %.20q", tenant, w.Tenant)
		}
		if own, e := q.Get(w.Job); own != w || e != api.OK {
			t.Fatalf("List(%.20q) has %s, Get %s", tenant, shown(w), shown(own))
		}
		got = append(got, w.Job)
	}
	if !slices.Equal(got, jobs) {
		t.Fatalf("List(%.20q): %d, not %d", tenant, got, jobs)
	}
	if len(jobs) == 0 {
		without(t, q, tenant)
		return
	}
	want, _ := q.Get(jobs[0])
	if w, e := q.Head(tenant); w != want || e != api.OK {
		t.Fatalf("Head(%.20q) = %s, %d, not %s", tenant, shown(w), e, shown(want))
	}
}

func tenants(t *testing.T, q *queue.Queue, want ...string) {
	t.Helper()
	if got := q.Tenants(); !slices.Equal(got, want) {
		t.Fatalf("Tenants = %.20q, not %.20q", got, want)
	}
}

func tops(t *testing.T, q *queue.Queue, want int64, names ...string) {
	t.Helper()
	if n, got := q.Top(); n != want || !slices.Equal(got, names) {
		t.Fatalf("Top = %d, %.20q, not %d, %.20q", n, got, want, names)
	}
}

// P14.1 to P14.3: the chapter's example.
func TestExample(t *testing.T) {
	q := of(t, waiter(2, "a", 5), waiter(1, "a", 5), waiter(3, "a", 9), waiter(4, "b", 9))
	lists(t, q, "a", 3, 1, 2)
	lists(t, q, "b", 4)
	tops(t, q, 9, "a", "b")
	remove(t, q, 3)
	lists(t, q, "a", 1, 2)
	tops(t, q, 9, "b")
}

// P14.1: a new queue is empty.
func TestNew(t *testing.T) {
	empty(t, queue.New())
}

// P14.1: jobs and priorities at the limits wait, each with each.
func TestLimits(t *testing.T) {
	for _, job := range []int64{1, 2, most - 1, most} {
		for _, priority := range []int64{0, 1, top - 1, top} {
			q := of(t, waiter(job, "a", priority))
			lists(t, q, "a", job)
			tops(t, q, priority, "a")
			remove(t, q, job)
			empty(t, q)
		}
	}
}

// P14.1: jobs and priorities beyond the limits don't wait, alone or both, of a tenant that is new or not.
func TestRange(t *testing.T) {
	q := of(t, waiter(5, "a", 5), waiter(6, "b", 6))
	for _, tenant := range []string{"a", "b", "new", ""} {
		for _, job := range noJobs() {
			for _, priority := range []int64{0, 5, top} {
				pushesNot(t, q, api.ErrRange, waiter(job, tenant, priority))
			}
			for _, priority := range noPriorities() {
				pushesNot(t, q, api.ErrRange, waiter(job, tenant, priority))
			}
		}
		for _, priority := range noPriorities() {
			pushesNot(t, q, api.ErrRange, waiter(1, tenant, priority), waiter(7, tenant, priority), waiter(most, tenant, priority))
		}
	}
	without(t, q, "new")
	without(t, q, "")
	waitsNot(t, q, noJobs()...)
}

// P14.1: a job that waits can't be pushed again, with whatever tenant and priority, and waits as it did.
func TestTwice(t *testing.T) {
	first := waiter(5, "a", 5)
	q := of(t, first, waiter(6, "b", 9), waiter(7, "a", 5))
	for _, tenant := range []string{"a", "b", "new", ""} {
		for _, priority := range []int64{0, 4, 5, 6, top} {
			pushesNot(t, q, api.ErrTwice, waiter(5, tenant, priority))
			waits(t, q, first)
		}
	}
	lists(t, q, "a", 5, 7)
	lists(t, q, "b", 6)
	without(t, q, "new")
	without(t, q, "")
	tops(t, q, 9, "b")
}

// P14.1: a priority beyond the limits comes ahead of a job that waits.
func TestFirstError(t *testing.T) {
	q := of(t, waiter(5, "a", 5))
	for _, priority := range noPriorities() {
		pushesNot(t, q, api.ErrRange, waiter(5, "a", priority), waiter(5, "b", priority))
	}
	pushesNot(t, q, api.ErrTwice, waiter(5, "a", 0), waiter(5, "b", top))
}

// P14.1: Get and Remove of what doesn't wait, waits, has waited, and waits again, then with what was pushed last.
func TestGetRemove(t *testing.T) {
	q := of(t, waiter(1, "a", 5))
	waitsNot(t, q, 2, 3, most)
	waitsNot(t, q, noJobs()...)
	for i, w := range []queue.Waiter{waiter(2, "a", 5), waiter(2, "a", 7), waiter(2, "b", 7), waiter(2, "", 0), waiter(2, "a", 5)} {
		push(t, q, w)
		size(t, q, 2)
		for range 3 { // asking leaves it
			waits(t, q, w)
		}
		if list := q.List(w.Tenant); len(list) != 1 && w.Tenant != "a" || len(list) != 2 && w.Tenant == "a" {
			t.Fatalf("at %d %.20q has %d waiters", i, w.Tenant, len(list))
		}
		remove(t, q, 2)
		lists(t, q, "a", 1)
		without(t, q, "b")
		without(t, q, "")
		waitsNot(t, q, 2)
	}
	remove(t, q, 1)
	empty(t, q)
}

// P14.1: what is removed from a queue that is empty behind it can wait again, as in a new one.
func TestAgain(t *testing.T) {
	q := queue.New()
	for range 3 {
		for job := range int64(most) {
			push(t, q, waiter(job+1, "a", job))
		}
		for job := range int64(most) {
			remove(t, q, job+1)
		}
		empty(t, q)
	}
}

// P14.1, P14.2: however often jobs come and go, while one that stays has the tenant stay, they wait as at first: each is the sixth of its tenant, as the one that came five ahead of it goes.
func TestOften(t *testing.T) {
	const times = 1<<20 + 1000 // more than a heap of layer 9 has handles
	lasting, other := waiter(50, "a", 50), waiter(90, "b", 1)
	nth := func(i int) queue.Waiter { return waiter(int64(i%40)+1, "a", int64(i%7)*10) }
	q := of(t, lasting, other)
	for i := range times {
		w := nth(i)
		if e := q.Push(w); e != api.OK {
			t.Fatalf("Push %d = %d", i, e)
		}
		if got, e := q.Get(w.Job); got != w || e != api.OK {
			t.Fatalf("Get behind Push %d = %v, %d", i, got, e)
		}
		if i < 5 {
			continue
		}
		if e := q.Remove(nth(i - 5).Job); e != api.OK {
			t.Fatalf("Remove behind Push %d = %d", i, e)
		}
		want := lasting
		for j := i - 4; j <= i; j++ {
			if inOrder(nth(j), want) < 0 {
				want = nth(j)
			}
		}
		if got, e := q.Head("a"); got != want || e != api.OK {
			t.Fatalf("Head behind Push %d = %v, %d, not %v", i, got, e, want)
		}
	}
	alike(t, q, []queue.Waiter{lasting, other, nth(times - 1), nth(times - 2), nth(times - 3), nth(times - 4), nth(times - 5)})
}

// P14.4: a nil queue is empty, and nothing can be pushed, whatever it is.
func TestNil(t *testing.T) {
	var q *queue.Queue
	empty(t, q)
	for _, tenant := range strange() {
		pushesNot(t, q, api.ErrState, waiter(1, tenant, 0), waiter(most, tenant, top))
	}
	for _, job := range noJobs() {
		pushesNot(t, q, api.ErrState, waiter(job, "a", 5), waiter(job, "a", -1))
	}
	for _, priority := range noPriorities() {
		pushesNot(t, q, api.ErrState, waiter(1, "a", priority))
	}
	pushesNot(t, q, api.ErrState, queue.Waiter{})
	empty(t, q)
}

// P14.4: the zero queue is as New's, at every call that may be its first.
func TestZero(t *testing.T) {
	empty(t, &queue.Queue{})
	size(t, &queue.Queue{}, 0)
	without(t, &queue.Queue{}, "a")
	tenants(t, &queue.Queue{})
	tops(t, &queue.Queue{}, 0)
	waitsNot(t, &queue.Queue{}, 0, 1, most)
	pushesNot(t, &queue.Queue{}, api.ErrRange, queue.Waiter{}, waiter(1, "a", -1))
	var q queue.Queue
	if e := q.Push(waiter(2, "a", 5)); e != api.OK {
		t.Fatalf("Push of the zero queue = %d", e)
	}
	push(t, &q, waiter(1, "a", 5))
	pushesNot(t, &q, api.ErrTwice, waiter(2, "b", 0))
	lists(t, &q, "a", 1, 2)
	tops(t, &q, 5, "a")
	remove(t, &q, 1)
	remove(t, &q, 2)
	empty(t, &q)
}

// R7: two queues don't hang on one another.
func TestApart(t *testing.T) {
	a, b := of(t, waiter(1, "x", 4)), queue.New()
	empty(t, b)
	push(t, b, waiter(1, "x", 9))
	push(t, b, waiter(2, "x", 3))
	lists(t, a, "x", 1)
	tops(t, a, 4, "x")
	remove(t, b, 1)
	waits(t, a, waiter(1, "x", 4))
	remove(t, a, 1)
	empty(t, a)
	lists(t, b, "x", 2)
}

// R5: what is handed back is new memory, of which nothing is kept.
func TestHandedBack(t *testing.T) {
	q := of(t, waiter(1, "b", 5), waiter(2, "a", 5), waiter(3, "a", 5), waiter(4, "a", 6))
	push(t, q, waiter(5, "c", 6))
	first, second := q.List("a"), q.List("a")
	clear(second[:cap(second)])
	if !slices.Equal(first, []queue.Waiter{waiter(4, "a", 6), waiter(2, "a", 5), waiter(3, "a", 5)}) {
		t.Fatalf("a list that was answered is %v now", first)
	}
	clear(first[:cap(first)])
	names, again := q.Tenants(), q.Tenants()
	clear(again[:cap(again)])
	if !slices.Equal(names, []string{"a", "b", "c"}) {
		t.Fatalf("tenants that were answered are %q now", names)
	}
	clear(names[:cap(names)])
	_, tops1 := q.Top()
	_, tops2 := q.Top()
	clear(tops2[:cap(tops2)])
	if !slices.Equal(tops1, []string{"a", "c"}) {
		t.Fatalf("tenants that Top has answered are %q now", tops1)
	}
	clear(tops1[:cap(tops1)])
	lists(t, q, "a", 4, 2, 3)
	tenants(t, q, "a", "b", "c")
	tops(t, q, 6, "a", "c")
}

// R5: a list that was answered stays as it is, whatever is done to the queue.
func TestAnswersStay(t *testing.T) {
	q := of(t, waiter(1, "a", 5), waiter(2, "b", 5), waiter(3, "a", 4))
	list, names := q.List("a"), q.Tenants()
	n, heads := q.Top()
	remove(t, q, 1)
	push(t, q, waiter(1, "c", 9))
	push(t, q, waiter(4, "a", 7))
	remove(t, q, 2)
	if !slices.Equal(list, []queue.Waiter{waiter(1, "a", 5), waiter(3, "a", 4)}) || !slices.Equal(names, []string{"a", "b"}) || n != 5 || !slices.Equal(heads, []string{"a", "b"}) {
		t.Fatalf("what was answered is %v, %q, %d, %q now", list, names, n, heads)
	}
}

// R5: the bytes of a tenant that is handed in aren't kept, be it by the first Push of that tenant, by another, or by what asks.
func TestTenantIsNotKept(t *testing.T) {
	q := queue.New()
	text := strings.Clone("a long text with a name within")
	name := text[19:23]
	from := uintptr(unsafe.Pointer(unsafe.StringData(text)))
	own := func(s string) {
		t.Helper()
		if at := uintptr(unsafe.Pointer(unsafe.StringData(s))); at >= from && at < from+uintptr(len(text)) {
			t.Fatal("the queue has the tenant in the memory that was handed in")
		}
	}
	for job := range int64(4) {
		push(t, q, waiter(job+1, name, job))
		for _, tenant := range q.Tenants() {
			own(tenant)
		}
		for _, w := range q.List(name) {
			own(w.Tenant)
		}
		w, _ := q.Head(name)
		own(w.Tenant)
		w, _ = q.Get(job + 1)
		own(w.Tenant)
		_, heads := q.Top()
		own(heads[0])
	}
	remove(t, q, 1)
	lists(t, q, "name", 4, 3, 2)
	own(q.Tenants()[0])
}
