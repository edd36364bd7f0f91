// Package axes: steps from nodes along axes, of what was checked by whoever asks. Many steps may so be gone over the same
// nodes, which are looked through just as far as each step goes.
package axes

import (
	"slices"

	"pleacher/api"
)

// Reach: the nodes that are on an axis of some of the context nodes and meet a test, in their order, each once. The nodes
// may be, the context nodes are there, and so are the axis and the kind of the test.
func Reach(l []api.Node, ctx []int, axis int, t api.Test) []int {
	w := walk{l: l, ctx: inOrder(ctx), seen: map[int]struct{}{}}
	w.along(axis)
	return w.meeting(axis, t)
}

// inOrder: each context node once, so that none is looked at again however often it is told.
func inOrder(ctx []int) []int {
	sorted := slices.Clone(ctx)
	slices.Sort(sorted)
	return slices.Compact(sorted)
}

// walk: nodes, the context nodes in their order, and the nodes that were seen on an axis of some of them.
type walk struct {
	l    []api.Node
	ctx  []int
	seen map[int]struct{}
}

// along an axis: no node is looked at for each of many context nodes that have it on that axis.
func (w walk) along(axis int) {
	switch axis {
	case api.Child:
		w.each(func(c int) { w.row(c+1, w.last(c), w.seeOther) })
	case api.Descendant:
		w.each(w.within())
	case api.DescendantOrSelf:
		w.each(w.see)
		w.each(w.within())
	case api.Self:
		w.each(w.see)
	case api.Parent:
		w.each(w.seeParent)
	case api.Ancestor:
		w.each(func(c int) { w.climb(w.l[c].Parent) })
	case api.AncestorOrSelf:
		w.each(w.climb)
	case api.Following:
		w.following()
	case api.Preceding:
		w.preceding()
	case api.FollowingSibling:
		w.followingSiblings()
	case api.PrecedingSibling:
		w.precedingSiblings()
	case api.Attribute:
		w.each(func(c int) { w.row(c+1, w.last(c), w.seeAttr) })
	}
}

func (w walk) each(look func(c int)) {
	for _, c := range w.ctx {
		look(c)
	}
}

func (w walk) see(n int) { w.seen[n] = struct{}{} }

func (w walk) seeParent(n int) {
	if p := w.l[n].Parent; p >= 0 {
		w.see(p)
	}
}

func (w walk) seeAttr(n int) {
	if w.l[n].Kind == api.Attr {
		w.see(n)
	}
}

func (w walk) seeOther(n int) {
	if w.l[n].Kind != api.Attr {
		w.see(n)
	}
}

// last node that is within another one, or that one, if there is none.
func (w walk) last(n int) int { return n + w.l[n].Size }

// row looks through nodes that have one parent, from a place to another one: what is within them is passed by.
func (w walk) row(from, to int, look func(n int)) {
	for n := from; n <= to; n = w.last(n) + 1 {
		look(n)
	}
}

// within: sees what is within context nodes that come in their order. What is within an earlier one, too, is passed by.
func (w walk) within() func(c int) {
	next := 0
	return func(c int) {
		for n := max(next, c+1); n <= w.last(c); n++ {
			w.seeOther(n)
		}
		next = max(next, w.last(c)+1)
	}
}

// climb from a node up to the first one that was seen: so were all around that.
func (w walk) climb(n int) {
	for n >= 0 {
		if _, ok := w.seen[n]; ok {
			return
		}
		w.see(n)
		n = w.l[n].Parent
	}
}

// following: whatever follows others of a tree follows the one that ends first, too.
func (w walk) following() {
	endsFirst := func(a, b int) bool { return w.last(a) < w.last(b) }
	for root, c := range w.best(w.roots(), endsFirst) {
		for n := w.last(c) + 1; n <= w.last(root); n++ {
			w.seeOther(n)
		}
	}
}

// preceding: whatever is ahead of others of a tree is ahead of the one that begins last, too.
func (w walk) preceding() {
	for root, c := range w.best(w.roots(), beginsLast) {
		for n := root; n < c; n++ {
			if w.last(n) < c {
				w.seeOther(n)
			}
		}
	}
}

func (w walk) followingSiblings() {
	for parent, c := range w.best(w.rowOf, beginsFirst) {
		w.row(w.last(c)+1, w.last(parent), w.seeOther)
	}
}

func (w walk) precedingSiblings() {
	for parent, c := range w.best(w.rowOf, beginsLast) {
		w.row(parent+1, c-1, w.seeOther)
	}
}

func beginsFirst(a, b int) bool { return a < b }

func beginsLast(a, b int) bool { return a > b }

// best context node of each group, by the group's node; a context node in the group -1 is in none.
func (w walk) best(group func(c int) int, better func(a, b int) bool) map[int]int {
	of := map[int]int{}
	w.each(func(c int) {
		g := group(c)
		if g < 0 {
			return
		}
		if b, ok := of[g]; !ok || better(c, b) {
			of[g] = c
		}
	})
	return of
}

// roots: tells in whose tree a node is, of nodes that come in their order: one way up is gone for each tree.
func (w walk) roots() func(c int) int {
	root := -1
	return func(c int) int {
		if root < 0 || c > w.last(root) {
			root = w.top(c)
		}
		return root
	}
}

// top: the node without a parent in whose tree a node is.
func (w walk) top(n int) int {
	for w.l[n].Parent >= 0 {
		n = w.l[n].Parent
	}
	return n
}

// rowOf: the node in whose row of children a node stands; an attribute stands in none.
func (w walk) rowOf(c int) int {
	if w.l[c].Kind == api.Attr {
		return -1
	}
	return w.l[c].Parent
}
