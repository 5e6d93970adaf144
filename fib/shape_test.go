package fib

import (
	"math/rand"
	"testing"

	"drover/ratio"
)

// fibonacci is 1, 1, 2, 3, 5, .. of 1, 2, 3, 4, 5, ..
func fibonacci(n int) int {
	a, b := 0, 1
	for range n {
		a, b = b, a+b
	}
	return a
}

// walk asks of e's tree that children know their parents and places, that none comes ahead of its parent, and that there are as many entries as the number of children asks for; it answers how many there are.
func walk(t *testing.T, h *Heap, e *entry) int {
	t.Helper()
	if h.entries[e.handle] != e {
		t.Fatalf("entry %d is not found by its handle", e.handle)
	}
	n := 1
	for i, child := range e.children {
		if child.parent != e || child.at != i {
			t.Fatalf("child %d of %d stands elsewhere", child.handle, e.handle)
		}
		if before(child, e) {
			t.Fatalf("child %d comes ahead of its parent %d", child.handle, e.handle)
		}
		n += walk(t, h, child)
	}
	if n < fibonacci(len(e.children)+2) {
		t.Fatalf("%d entries below %d children", n, len(e.children))
	}
	return n
}

// sound asks of h that its roots of each degree stand in the array's place of that degree, and all entries in their trees; single, that no two have one degree.
func sound(t *testing.T, h *Heap, single bool) {
	t.Helper()
	n := 0
	for degree, row := range h.roots {
		if single && len(row) > 1 {
			t.Fatalf("%d roots of degree %d behind a Pop", len(row), degree)
		}
		for i, root := range row {
			if len(root.children) != degree || root.at != i || root.parent != nil {
				t.Fatalf("root %d stands in the wrong place", root.handle)
			}
			if before(root, h.least) {
				t.Fatalf("root %d comes ahead of the least", root.handle)
			}
			n += walk(t, h, root)
		}
	}
	if n != h.Len() || (n == 0) != (h.least == nil) {
		t.Fatalf("%d entries in trees, %d in all", n, h.Len())
	}
}

func whole(n int) Key {
	return Key{Ratio: ratio.Ratio{N: uint64(n), D: 1}}
}

// Ways: the roots of each degree stand in an array. That it has room for each degree hangs on how trees are cut, which is asked here at each call.
func TestShape(t *testing.T) {
	for seed := range int64(60) {
		r := rand.New(rand.NewSource(seed))
		h, other := New(), New()
		for step := range 500 {
			single := false
			switch c := r.Intn(20); {
			case step < 100 || c < 8:
				h.Insert(whole(1000 + r.Intn(1000)))
			case c < 16:
				handle := r.Intn(h.given)
				if k, e := h.Get(handle); e == 0 {
					h.Decrease(handle, whole(r.Intn(int(k.Ratio.N)+1)))
				}
			case c < 17:
				h.Delete(r.Intn(h.given))
			case c < 19:
				_, _, e := h.Pop()
				single = e == 0
			default:
				for range r.Intn(40) {
					other.Insert(whole(r.Intn(2000)))
				}
				other.Pop()
				h.Meld(other)
				sound(t, other, true)
			}
			sound(t, h, single)
		}
	}
}

// Ways: an entry that has lost a child, and loses another, becomes a root too, and so on up: else one could have many children and no others below them.
func TestCutsGoUp(t *testing.T) {
	const n = 1 << 10
	for seed := range int64(8) {
		r := rand.New(rand.NewSource(seed))
		h := New()
		for i := range n {
			h.Insert(whole(n + i))
		}
		for round := range 6 {
			h.Insert(whole(0))
			h.Pop()
			sound(t, h, true)
			for range n / 2 {
				e := h.find(r.Intn(n))
				if e != nil && e.parent != nil && len(e.children) == 0 {
					h.Delete(e.handle)
				}
			}
			sound(t, h, false)
			for i := range h.Len() / 4 {
				h.Decrease(r.Intn(n), whole(n-round*n/8-i%(n/8)))
			}
			sound(t, h, false)
		}
	}
}

// Ways: who has lost one child stays below its parent, till it loses another; linked again, it may lose one again.
func TestOneChildMayGo(t *testing.T) {
	h := New()
	for i := range 8 {
		h.Insert(whole(100 + i))
	}
	h.Insert(whole(200)) // 8
	h.Insert(whole(50))  // 9
	h.Insert(whole(60))  // 10
	link := func(pairs ...[2]int) {
		for _, p := range pairs {
			h.link(h.find(p[0]), h.find(p[1]))
			sound(t, h, false)
		}
	}
	lose := func(child, from, to int) {
		h.Decrease(child, whole(child))
		sound(t, h, false)
		if p := h.find(child).parent; p != nil {
			t.Fatalf("%d is below %d yet", child, p.handle)
		}
		if p := h.find(from).parent; p != h.find(to) {
			t.Fatalf("%d is not below %d when it has lost %d", from, to, child)
		}
	}
	link([2]int{4, 5}, [2]int{6, 7}, [2]int{4, 6}, [2]int{0, 1}, [2]int{2, 3}, [2]int{0, 2}, [2]int{0, 4})
	lose(6, 4, 0)
	lose(5, 4, -1)
	link([2]int{4, 8}, [2]int{9, 10}, [2]int{4, 9})
	lose(8, 4, 9)
	for h.Len() > 0 {
		h.Pop()
		sound(t, h, true)
	}
}

// Ways: the array has a place for the greatest degree that 2^20 entries can have, and none more.
func TestDegrees(t *testing.T) {
	if fibonacci(degrees+1) > maxHandles || fibonacci(degrees+2) <= maxHandles {
		t.Errorf("%d places: the greatest degree is another", degrees)
	}
}
