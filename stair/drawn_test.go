package stair_test

import (
	"slices"
	"testing"

	"pleacher/api"
	"pleacher/stair"
	"pleacher/store"
)

// die: numbers that look drawn, the same in each run.
type die uint64

func (d *die) below(n int) int {
	*d = *d*6364136223846793005 + 1442695040888963407
	return int(uint64(*d>>33) % uint64(n))
}

// tree: a node of a drawn kind, with what is within it, behind others.
func (d *die) tree(l []api.Node, level, parent, kind int) []api.Node {
	n := len(l)
	x := api.Node{Kind: kind, Level: level, Parent: parent}
	if kind == api.Elem || kind == api.Attr {
		x.Name = []string{"a", "b"}[d.below(2)]
	}
	l = append(l, x)
	if kind != api.Elem && kind != api.Doc {
		return l
	}
	if kind == api.Elem {
		for range d.below(3) {
			l = d.tree(l, level+1, n, api.Attr)
		}
	}
	if level < 5 {
		for range d.below(4) {
			l = d.tree(l, level+1, n, []int{api.Elem, api.Elem, api.Text, api.Comment}[d.below(4)])
		}
	}
	l[n].Size = len(l) - 1 - n
	return l
}

// trees: some of any kinds, one behind the other.
func (d *die) trees() []api.Node {
	var l []api.Node
	for range d.below(5) {
		l = d.tree(l, 0, -1, []int{api.Doc, api.Elem, api.Elem, api.Attr, api.Text, api.Comment}[d.below(6)])
	}
	return l
}

// isWithin: is the node n within the node of?
func isWithin(l []api.Node, n, of int) bool { return n > of && n <= of+l[of].Size }

func sameTree(l []api.Node, a, b int) bool {
	for r, x := range l {
		if x.Parent < 0 && (a == r || isWithin(l, a, r)) {
			return b == r || isWithin(l, b, r)
		}
	}
	return false
}

// isOn: P4.1, word by word: is the node n on an axis of the node c?
func isOn(l []api.Node, n, c, axis int) bool {
	other := l[n].Kind != api.Attr
	siblings := l[n].Parent == l[c].Parent && l[c].Parent >= 0 && l[c].Kind != api.Attr && other
	switch axis {
	case api.Child:
		return l[n].Parent == c && other
	case api.Descendant:
		return isWithin(l, n, c) && other
	case api.DescendantOrSelf:
		return n == c || isWithin(l, n, c) && other
	case api.Self:
		return n == c
	case api.Parent:
		return l[c].Parent == n
	case api.Ancestor:
		return isWithin(l, c, n)
	case api.AncestorOrSelf:
		return n == c || isWithin(l, c, n)
	case api.Following:
		return sameTree(l, n, c) && n > c && !isWithin(l, n, c) && other
	case api.Preceding:
		return sameTree(l, n, c) && n < c && !isWithin(l, c, n) && other
	case api.FollowingSibling:
		return siblings && n > c
	case api.PrecedingSibling:
		return siblings && n < c
	case api.Attribute:
		return l[n].Parent == c && !other
	}
	return false
}

// holds: P4.2, word by word.
func holds(x api.Node, axis int, test api.Test) bool {
	named := x.Kind == api.Elem || axis == api.Attribute && x.Kind == api.Attr
	switch test.Kind {
	case api.AnyNode:
		return true
	case api.TextTest:
		return x.Kind == api.Text
	case api.CommTest:
		return x.Kind == api.Comment
	case api.AnyNamed:
		return named
	}
	return named && x.Name == test.Name
}

func naive(l []api.Node, ctx []int, axis int, test api.Test) []int {
	var found []int
	for n, x := range l {
		if holds(x, axis, test) && slices.ContainsFunc(ctx, func(c int) bool { return isOn(l, n, c, axis) }) {
			found = append(found, n)
		}
	}
	return found
}

// P4.1 to P4.3: the same as the words tell, of any trees, context nodes, axes and tests.
func TestDrawn(t *testing.T) {
	d := die(1)
	var some [api.Attribute + 1]int // of each axis: how often a step leads to more than one node
	for range 60000 {
		l := d.trees()
		if e := store.Check(l); e != api.OK {
			t.Fatalf("%v: %d", l, e)
		}
		var ctx []int
		for range d.below(6) {
			if len(l) > 0 {
				ctx = append(ctx, d.below(len(l)))
			}
		}
		axis, test := 1+d.below(api.Attribute), api.Test{Kind: 1 + d.below(2*api.AnyNamed), Name: []string{"a", "b"}[d.below(2)]}
		if test.Kind > api.AnyNamed {
			test.Kind = api.AnyNode
		}
		want := naive(l, ctx, axis, test)
		if got, e := stair.Walk(l, ctx, axis, test); !slices.Equal(got, want) || e != api.OK {
			t.Fatalf("axis %d of %v, test %v, nodes %v: %v %d, want %v", axis, ctx, test, l, got, e, want)
		}
		if len(want) > 1 {
			some[axis]++
		}
	}
	for axis, n := range some[1:] {
		if n < 100 {
			t.Errorf("axis %d: %d steps to more than one node", axis+1, n)
		}
	}
}

// As many nodes as there may be, deep or broad, all of them context nodes, more than once: no step takes a long time.
func TestWalkMany(t *testing.T) {
	var all []int
	for i := range 3 * api.MaxNodes {
		all = append(all, (i*7)%api.MaxNodes)
	}
	chain := make([]api.Node, api.MaxNodes)
	flat := make([]api.Node, api.MaxNodes)
	alone := make([]api.Node, api.MaxNodes)
	for i := range api.MaxNodes {
		chain[i] = elem("a", api.MaxNodes-1-i, i, i-1)
		flat[i] = elem("a", 0, 1, 0)
		alone[i] = elem("a", 0, 0, -1)
	}
	flat[0] = elem("a", api.MaxNodes-1, 0, -1)
	const most, none = api.MaxNodes, 0
	for _, c := range []struct {
		what string
		l    []api.Node
		want [api.Attribute]int // how many nodes each axis leads to
	}{
		{"a chain", chain, [...]int{most - 1, most - 1, most, most, most - 1, most - 1, most, none, none, none, none, none}},
		{"one row", flat, [...]int{most - 1, most - 1, most, most, 1, 1, most, most - 2, most - 2, most - 2, most - 2, none}},
		{"trees of one", alone, [...]int{none, none, most, most, none, none, most, none, none, none, none, none}},
	} {
		for i, want := range c.want {
			if got, e := stair.Walk(c.l, all, i+1, anyNode); len(got) != want || e != api.OK {
				t.Errorf("%s, axis %d: %d nodes, %d, want %d", c.what, i+1, len(got), e, want)
			}
		}
	}
	if got, e := stair.Walk(flat, make([]int, 3*api.MaxNodes), api.Child, anyNode); len(got) != most-1 || e != api.OK {
		t.Errorf("one context node, again and again: %d nodes, %d", len(got), e)
	}
}

// What is handed in stays as it is, its spare room too; answers share no memory with it, or with one another.
func TestGivenStays(t *testing.T) {
	l := sample(t)
	nodes := append(slices.Clone(l), leaf(api.Text, "", 0, -1))[:len(l)]
	room := at(14, 3, 9, 3, 0, 77, 78)
	ctx := room[:5:7]
	for axis := api.Child; axis <= api.Attribute; axis++ {
		first, _ := stair.Walk(nodes, ctx, axis, anyNode)
		kept := slices.Clone(first)
		second, _ := stair.Walk(nodes, ctx, axis, anyNode)
		clear(second[:cap(second)])
		if !slices.Equal(first, kept) {
			t.Errorf("axis %d: %v, was %v", axis, first, kept)
		}
	}
	if !slices.Equal(nodes, l) || nodes[:len(l)+1][len(l)] != leaf(api.Text, "", 0, -1) {
		t.Errorf("nodes: %v", nodes)
	}
	if !slices.Equal(room, at(14, 3, 9, 3, 0, 77, 78)) {
		t.Errorf("context nodes: %v", room)
	}
}
