package fib

import "cmp"

// degrees is one more than any entry has children. An entry that is a child loses one child at most ahead of being cut itself, so that one with d children has F(d+2) entries in its tree at least, itself among them (F being 1, 1, 2, 3, 5, ..). F(30) is at most maxHandles, and F(31) is more: 28 children are the most.
const degrees = 29

// entry is one node of the heap's trees: none comes ahead of its parent.
type entry struct {
	handle   int
	key      Key
	parent   *entry // nil of a root
	children family
	at       int  // where it stands in its family
	lost     bool // of one that has a parent: whether it has lost a child since it got that parent
}

// before tells whether a comes out ahead of b.
func before(a, b *entry) bool {
	return cmp.Or(compare(a.key, b.key), cmp.Compare(a.handle, b.handle)) < 0
}

// family is those that stand beside each other, in no order: the children of one entry, or the roots with as many children.
type family []*entry

func (f *family) join(e *entry) {
	e.at = len(*f)
	*f = append(*f, e)
}

// leave puts the last one in e's stead, so that nobody else has to move.
func (f *family) leave(e *entry) {
	list := *f
	last := len(list) - 1
	list[e.at] = list[last]
	list[e.at].at = e.at
	list[last] = nil
	*f = list[:last]
}

// row is where a root with as many children as e has stands.
func (h *Heap) row(e *entry) *family {
	return &h.roots[len(e.children)]
}

// raise makes e a root.
func (h *Heap) raise(e *entry) {
	e.parent = nil
	h.row(e).join(e)
}

// offer makes e the least entry, if it comes ahead of what is that.
func (h *Heap) offer(e *entry) {
	if h.least == nil || before(e, h.least) {
		h.least = e
	}
}

// cut makes e a root, and with it each one up from it that has lost a child before: else an entry could have many children, and few entries below them.
func (h *Heap) cut(e *entry) {
	for e.parent != nil {
		parent := e.parent
		h.part(parent, e)
		if !parent.lost {
			parent.lost = true
			return
		}
		e = parent
	}
}

// part makes a child of parent's a root.
func (h *Heap) part(parent, child *entry) {
	root := parent.parent == nil
	if root {
		h.row(parent).leave(parent)
	}
	parent.children.leave(child)
	if root {
		h.raise(parent)
	}
	h.raise(child)
}

// remove takes e out of the heap.
func (h *Heap) remove(e *entry) {
	h.cut(e)
	h.row(e).leave(e)
	for _, child := range e.children {
		h.raise(child)
	}
	delete(h.entries, e.handle)
	if e == h.least {
		h.settle()
	}
}

// settle links the roots till no two have as many children, and finds the least of the few that are left.
func (h *Heap) settle() {
	h.least = nil
	for d := range h.roots {
		for len(h.roots[d]) > 1 {
			h.link(h.roots[d][0], h.roots[d][1])
		}
		for _, root := range h.roots[d] {
			h.offer(root)
		}
	}
}

// link makes of two roots the one that comes later a child of the other.
func (h *Heap) link(a, b *entry) {
	if before(b, a) {
		a, b = b, a
	}
	h.row(a).leave(a)
	h.row(b).leave(b)
	a.children.join(b)
	b.parent, b.lost = a, false
	h.raise(a)
}
