package queue_test

import (
	"slices"
	"strconv"
	"testing"

	"drover/api"
	"drover/queue"
)

// orders calls each with every order of n numbers, from 0 on.
func orders(n int, each func(order []int)) {
	var grow func(order []int)
	grow = func(order []int) {
		if len(order) == n {
			each(order)
			return
		}
		for i := range n {
			if !slices.Contains(order, i) {
				grow(append(slices.Clone(order), i))
			}
		}
	}
	grow(nil)
}

// P14.2: like priorities, with numbers that come and go in every order: the least number is first.
func TestLikePriorities(t *testing.T) {
	numbers := []int64{1, 9, 10, 99, most}
	orders(len(numbers), func(order []int) {
		for _, priority := range []int64{0, 5, top} {
			q := queue.New()
			var there []int64
			for _, i := range order {
				push(t, q, waiter(numbers[i], "a", priority))
				there = append(there, numbers[i])
				slices.Sort(there)
				lists(t, q, "a", there...)
				tops(t, q, priority, "a")
			}
			for _, i := range order {
				remove(t, q, numbers[i])
				there = slices.DeleteFunc(there, func(job int64) bool { return job == numbers[i] })
				lists(t, q, "a", there...)
			}
			empty(t, q)
		}
	})
}

// P14.2: priorities come ahead of numbers, in whatever order waiters come: the greatest is first.
func TestPriorities(t *testing.T) {
	want := []queue.Waiter{waiter(70, "a", top), waiter(3, "a", top-1), waiter(40, "a", top-1), waiter(100, "a", 10), waiter(2, "a", 9), waiter(1, "a", 0)}
	orders(len(want), func(order []int) {
		q := queue.New()
		for _, i := range order {
			if e := q.Push(want[i]); e != api.OK {
				t.Fatalf("Push(%v) = %d", want[i], e)
			}
		}
		for i, w := range want {
			if got := q.List("a"); !slices.Equal(got, want[i:]) {
				t.Fatalf("List behind the order %v = %v, not %v", order, got, want[i:])
			}
			if head, e := q.Head("a"); head != w || e != api.OK {
				t.Fatalf("Head behind the order %v = %v, %d, not %v", order, head, e, w)
			}
			tops(t, q, w.Priority, "a")
			if e := q.Remove(w.Job); e != api.OK {
				t.Fatalf("Remove(%d) = %d", w.Job, e)
			}
		}
	})
}

// P14.2: any text is a tenant: none at all, such as are no texts, and very long ones; however they come, they are told rising, byte by byte, and go with their last waiter.
func TestTenants(t *testing.T) {
	rising := strange()
	if !slices.IsSorted(rising) || 2*len(rising) > most {
		t.Fatal("the tenants don't rise, or are too many")
	}
	for _, step := range []int{1, 5, 7, 31} {
		q := queue.New()
		for i := range rising {
			at := int64(i * step % len(rising))
			without(t, q, rising[at])
			push(t, q, waiter(2*at+1, rising[at], at))
			push(t, q, waiter(2*at+2, rising[at], at))
		}
		tenants(t, q, rising...)
		tops(t, q, int64(len(rising)-1), rising[len(rising)-1])
		for i, tenant := range rising {
			at := int64(i)
			lists(t, q, tenant, 2*at+1, 2*at+2)
			remove(t, q, 2*at+1)
			lists(t, q, tenant, 2*at+2)
			tenants(t, q, rising[i:]...)
			remove(t, q, 2*at+2)
			without(t, q, tenant)
			tenants(t, q, rising[i+1:]...)
		}
		empty(t, q)
	}
}

// P14.2, P14.3: tenants are found by their names alone, and a name that is part of another is not that one.
func TestFound(t *testing.T) {
	q := of(t, waiter(1, "ab", 1), waiter(2, "abc", 1), waiter(3, "b", 1))
	for _, tenant := range []string{"", "a", "abcd", "c", "bc", "AB", "ab ", " ab", "ab\x00", "é"} {
		without(t, q, tenant)
	}
	lists(t, q, "ab", 1)
	lists(t, q, "abc", 2)
	lists(t, q, "b", 3)
	tops(t, q, 1, "ab", "abc", "b")
}

// P14.2: a tenant whose last job is removed is gone, wherever it stands among the others, and may come again.
func TestLastOfTenant(t *testing.T) {
	names := []string{"a", "b", "c", "d"}
	orders(len(names), func(order []int) {
		q := queue.New()
		for i, name := range names {
			push(t, q, waiter(int64(i)+1, name, 5))
		}
		left := slices.Clone(names)
		for _, i := range order {
			remove(t, q, int64(i)+1)
			left = slices.DeleteFunc(left, func(name string) bool { return name == names[i] })
			tenants(t, q, left...)
			without(t, q, names[i])
			if len(left) > 0 {
				tops(t, q, 5, left...)
			}
		}
		empty(t, q)
		push(t, q, waiter(9, "c", 3))
		lists(t, q, "c", 9)
		tenants(t, q, "c")
		tops(t, q, 3, "c")
	})
}

// P14.3: Top of one tenant is the priority of its head, as others come and go ahead of it and behind it.
func TestTopOfOne(t *testing.T) {
	q := of(t, waiter(5, "a", 0))
	tops(t, q, 0, "a")
	push(t, q, waiter(6, "a", 7))
	tops(t, q, 7, "a")
	push(t, q, waiter(7, "a", 6))
	tops(t, q, 7, "a")
	push(t, q, waiter(4, "a", 7))
	tops(t, q, 7, "a")
	remove(t, q, 4)
	tops(t, q, 7, "a")
	remove(t, q, 6)
	tops(t, q, 6, "a")
	push(t, q, waiter(6, "a", top))
	tops(t, q, top, "a")
	remove(t, q, 7)
	tops(t, q, top, "a")
	remove(t, q, 6)
	tops(t, q, 0, "a")
	remove(t, q, 5)
	tops(t, q, 0)
}

// P14.3: Top of several tenants, behind the removal of each head: those whose heads have the greatest priority, wherever they stand among the others.
func TestTopOfSeveral(t *testing.T) {
	q := of(t,
		waiter(1, "d", 9), waiter(2, "d", 9), waiter(3, "d", 0),
		waiter(4, "b", 9), waiter(5, "b", 7),
		waiter(6, "a", 7), waiter(7, "a", 0),
		waiter(8, "c", 8),
		waiter(9, "", 0), waiter(10, "e", 0))
	tops(t, q, 9, "b", "d")
	for _, x := range []struct {
		job  int64
		want int64
		of   []string
	}{
		{1, 9, []string{"b", "d"}},
		{4, 9, []string{"d"}},
		{2, 8, []string{"c"}},
		{8, 7, []string{"a", "b"}},
		{6, 7, []string{"b"}},
		{5, 0, []string{"", "a", "d", "e"}},
		{3, 0, []string{"", "a", "e"}},
		{9, 0, []string{"a", "e"}},
		{10, 0, []string{"a"}},
		{7, 0, nil},
	} {
		remove(t, q, x.job)
		tops(t, q, x.want, x.of...)
	}
	empty(t, q)
}

// P14.3: a waiter behind its tenant's head doesn't have that tenant told twice, nor one with less told at all.
func TestTopByHeads(t *testing.T) {
	q := of(t, waiter(1, "a", 5), waiter(2, "a", 5), waiter(3, "b", 5), waiter(4, "b", 5), waiter(5, "c", 4))
	tops(t, q, 5, "a", "b")
	remove(t, q, 2)
	tops(t, q, 5, "a", "b")
	remove(t, q, 1)
	tops(t, q, 5, "b")
	push(t, q, waiter(1, "c", 5))
	tops(t, q, 5, "b", "c")
}

// P14.1 to P14.3: as many waiters as there can be, of one tenant, of few, and each of its own.
func TestMost(t *testing.T) {
	for _, n := range []int64{1, 3, 7, most} {
		q := queue.New()
		var want []queue.Waiter
		for i := range int64(most) {
			job := i*37%most + 1
			w := waiter(job, "t"+strconv.FormatInt(job%n, 10), job*53%(top+1))
			push(t, q, w)
			want = append(want, w)
		}
		size(t, q, most)
		for job := range int64(most) {
			pushesNot(t, q, api.ErrTwice, waiter(job+1, "t0", 1))
		}
		pushesNot(t, q, api.ErrRange, waiter(most+1, "t0", 1), waiter(0, "t0", 1))
		if len(q.Tenants()) != int(n) {
			t.Fatalf("%d tenants, not %d", len(q.Tenants()), n)
		}
		alike(t, q, want)
		for len(want) > 0 {
			remove(t, q, want[0].Job)
			want = want[1:]
			alike(t, q, want)
		}
		empty(t, q)
	}
}

// P14.1 to P14.3: asking changes nothing, nor does a tenant that isn't there come of it.
func TestAsking(t *testing.T) {
	q := of(t, waiter(1, "a", 5), waiter(2, "a", 6), waiter(3, "b", 6))
	for range 3 {
		size(t, q, 3)
		lists(t, q, "a", 2, 1)
		lists(t, q, "b", 3)
		without(t, q, "c")
		without(t, q, "")
		waitsNot(t, q, 4, 0)
		tenants(t, q, "a", "b")
		tops(t, q, 6, "a", "b")
	}
}
