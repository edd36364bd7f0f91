package run_test

import (
	"fmt"
	"slices"
	"strings"
	"testing"

	"pleacher/api"
	"pleacher/run"
	"pleacher/store"
)

func elem(name string, size, level, parent int) api.Node {
	return api.Node{Kind: api.Elem, Name: name, Size: size, Level: level, Parent: parent}
}

func attr(name, value string, level, parent int) api.Node {
	return api.Node{Kind: api.Attr, Name: name, Value: value, Level: level, Parent: parent}
}

func leaf(kind int, value string, level, parent int) api.Node {
	return api.Node{Kind: kind, Value: value, Level: level, Parent: parent}
}

// content: a plan whose last op tells items, nodes among them, in one iteration, with their order as pos.
func content(items ...api.Item) api.Plan {
	p := api.Plan{table("iter pos item")}
	for i, x := range items {
		before := len(p) - 1
		if x.Kind != api.IsNode {
			p = append(p, table("item", row(x)))
		} else {
			p = append(p, pick(len(p), x.N, "item")...)
		}
		n := len(p)
		p = append(p, table("iter pos", row(num(1), num(i))),
			api.Op{Kind: api.Cross, In: at(n, n-1)}, api.Op{Kind: api.Union, In: at(before, n+1)})
	}
	return p
}

// built: one node, of items, over nodes: what is behind them then, as if it stood at 0.
func built(t *testing.T, l []api.Node, kind int, name string, items ...api.Item) ([]api.Node, [][]api.Item, api.Errno) {
	t.Helper()
	p := content(items...)
	p = append(p, table("iter", row(num(1))),
		api.Op{Kind: api.Build, In: at(len(p), len(p)-1), N: kind, Name: name},
		api.Op{Kind: api.Rank, In: at(len(p) + 1), New: "pos"})
	r, made, e := run.Eval(p, l)
	if e != api.OK {
		return nil, nil, e
	}
	if !slices.Equal(made[:len(l)], l) || store.Check(made) != api.OK {
		t.Errorf("of %v: nodes %v", items, made)
	}
	tree := slices.Clone(made[len(l):])
	for i := range tree {
		if tree[i].Parent >= 0 {
			tree[i].Parent -= len(l)
		}
	}
	return tree, r.Rows, e
}

type making struct {
	items []api.Item
	want  []api.Node // nil: it is refused
}

func makings(t *testing.T, l []api.Node, kind int, name string, cases []making) {
	t.Helper()
	for _, c := range cases {
		got, rows, e := built(t, l, kind, name, c.items...)
		if c.want == nil {
			if e != api.ErrValue {
				t.Errorf("%d of %v: %v %d", kind, c.items, got, e)
			}
			continue
		}
		if e != api.OK || !slices.Equal(got, c.want) || !sameRows(rows, [][]api.Item{{num(1), node(len(l)), num(1)}}) {
			t.Errorf("%d of %v: %v %v %d, want %v", kind, c.items, got, rows, e, c.want)
		}
	}
}

func nodes(l ...api.Node) []api.Node { return l }

// P7.8
func TestBuildText(t *testing.T) {
	l := sample(t)
	long := strings.Repeat("x", api.MaxText)
	one := func(s string) []api.Node { return nodes(leaf(api.Text, s, 0, -1)) }
	makings(t, l, api.Text, "", []making{
		{row(text("a")), one("a")}, {row(text("")), one("")}, {row(num(-3)), one("-3")}, {row(yes), one("true")}, {row(no), one("false")},
		{row(text("a"), text("b"), num(1)), one("a b 1")}, {row(text(""), text("")), one(" ")}, {row(text("a"), text(""), yes), one("a  true")},
		{row(node(1)), one("x-12")}, {row(node(0)), one("x-12")}, {row(node(2), node(7), node(3)), one("7 c x")}, {row(node(8), text("a")), one(" a")},
		{row(text(long)), one(long)}, {row(text(long[1:]), text("")), one(long[1:] + " ")}, {row(text(long), text("")), nil},
		{row(text(long[2:]), text("a")), one(long[2:] + " a")}, {row(text(long[2:]), text("ab")), nil}, {row(text(long), text(long)), nil},
	})
	got, rows, e := built(t, l, api.Text, "")
	if len(got) > 0 || len(rows) > 0 || e != api.OK {
		t.Errorf("without items: %v %v %d", got, rows, e)
	}
}

// P7.8
func TestBuildAttr(t *testing.T) {
	l := sample(t)
	long := strings.Repeat("é", api.MaxText/2)
	one := func(s string) []api.Node { return nodes(attr("at", s, 0, -1)) }
	makings(t, l, api.Attr, "at", []making{
		{nil, one("")}, {row(text("")), one("")}, {row(text("a"), num(1), no), one("a 1 false")}, {row(node(4), node(5), node(2)), one("-12  7")},
		{row(node(0)), one("x-12")}, {row(text(long)), one(long)}, {row(text(long), text("")), nil},
	})
}

// P7.8
func TestBuildElem(t *testing.T) {
	l := sample(t)
	e := func(size int) api.Node { return elem("e", size, 0, -1) }
	b := func(parent int) api.Node { return elem("b", 0, 1, parent) }
	txt := func(s string) api.Node { return leaf(api.Text, s, 1, 0) }
	a := nodes(elem("a", 2, 1, 0), attr("m", "", 2, 1), leaf(api.Text, "-12", 2, 1))
	makings(t, l, api.Elem, "e", []making{
		{nil, nodes(e(0))},
		{row(text("a")), nodes(e(1), txt("a"))},
		{row(text("")), nodes(e(0))},
		{row(text("a"), num(2), yes), nodes(e(1), txt("a 2 true"))},
		{row(text(""), text("")), nodes(e(1), txt(" "))},
		{row(node(3)), nodes(e(1), txt("x"))},
		{row(node(3), node(6), node(3)), nodes(e(1), txt("x-12x"))},
		{row(text("a"), node(3), text("b")), nodes(e(1), txt("axb"))},
		{row(text("a"), text("b"), node(3), text("c"), text("d")), nodes(e(1), txt("a bxc d"))},
		{row(node(8)), nodes(e(1), b(0))},
		{row(text("a"), node(8), text("b")), nodes(e(3), txt("a"), b(0), txt("b"))},
		{row(text(""), node(8), text("")), nodes(e(1), b(0))},
		{row(node(7)), nodes(e(1), leaf(api.Comment, "c", 1, 0))},
		{row(text("a"), node(7), node(3), num(1)), nodes(e(3), txt("a"), leaf(api.Comment, "c", 1, 0), txt("x1"))},
		{row(node(4)), append(nodes(e(3)), a...)},
		{row(node(2)), nodes(e(1), attr("k", "7", 1, 0))},
		{row(node(2), node(5)), nodes(e(2), attr("k", "7", 1, 0), attr("m", "", 1, 0))},
		{row(node(2), text("a")), nodes(e(2), attr("k", "7", 1, 0), txt("a"))},
		{row(node(5), node(8), node(8)), nodes(e(3), attr("m", "", 1, 0), b(0), b(0))},
		{row(node(1)), nodes(e(8), elem("r", 7, 1, 0), attr("k", "7", 2, 1), leaf(api.Text, "x", 2, 1), elem("a", 2, 2, 1),
			attr("m", "", 3, 4), leaf(api.Text, "-12", 3, 4), leaf(api.Comment, "c", 2, 1), elem("b", 0, 2, 1))},
		{row(node(8), node(4)), nodes(e(4), b(0), elem("a", 2, 1, 0), attr("m", "", 2, 2), leaf(api.Text, "-12", 2, 2))},
		{row(node(0)), nil},
		{row(text("a"), node(0)), nil},
		{row(node(2), node(2)), nil},
		{row(node(2), node(5), node(2)), nil},
		{row(text("a"), node(2)), nil},
		{row(text(""), node(2)), nil},
		{row(node(3), node(2)), nil},
		{row(node(8), node(2)), nil},
		{row(node(7), node(5)), nil},
		{row(node(5), text("a"), node(2)), nil},
		{row(node(2), num(1), node(2)), nil},
	})
}

// P7.8: an empty Text is something else than an Attr, too, though it comes to nothing, and ends no blank.
func TestBuildEmptyText(t *testing.T) {
	l := nodes(elem("r", 3, 0, -1), attr("k", "", 1, 0), leaf(api.Text, "", 1, 0), leaf(api.Text, "y", 1, 0))
	e := func(size int) api.Node { return elem("e", size, 0, -1) }
	makings(t, l, api.Elem, "e", []making{
		{row(node(2)), nodes(e(0))}, {row(node(2), node(2)), nodes(e(0))}, {row(node(2), node(1)), nil},
		{row(text("a"), node(2), text("b")), nodes(e(1), leaf(api.Text, "ab", 1, 0))},
		{row(node(2), node(3)), nodes(e(1), leaf(api.Text, "y", 1, 0))},
		{row(node(0)), append(nodes(e(4)), elem("r", 3, 1, 0), attr("k", "", 2, 1), leaf(api.Text, "", 2, 1), leaf(api.Text, "y", 2, 1))},
	})
}

// P7.8: how long one Text may be.
func TestBuildLong(t *testing.T) {
	long := strings.Repeat("x", api.MaxText)
	l := nodes(elem("r", 2, 0, -1), leaf(api.Text, long, 1, 0), elem("a", 0, 1, 0))
	e := func(size int) api.Node { return elem("e", size, 0, -1) }
	makings(t, l, api.Elem, "e", []making{
		{row(node(1)), nodes(e(1), leaf(api.Text, long, 1, 0))},
		{row(node(1), text("")), nodes(e(1), leaf(api.Text, long, 1, 0))},
		{row(text(""), node(1)), nodes(e(1), leaf(api.Text, long, 1, 0))},
		{row(node(1), text("y")), nil},
		{row(text("y"), node(1)), nil},
		{row(text(""), text(""), node(1)), nil},
		{row(node(1), text(""), text("")), nil},
		{row(node(1), node(1)), nil},
		{row(node(1), node(2), node(1)), nodes(e(3), leaf(api.Text, long, 1, 0), elem("a", 0, 1, 0), leaf(api.Text, long, 1, 0))},
	})
}

// P7.8: row by row of the loop, the content of its iter, by pos, then as it stands.
func TestBuildLoop(t *testing.T) {
	loop := table("n iter", row(yes, num(2)), row(no, num(1)), row(yes, text("2")), row(no, num(2)), row(no, num(3)))
	items := table("item pos iter", row(text("d"), num(3), num(2)), row(text("x"), num(1), num(1)), row(text("a"), num(1), num(2)), row(text("q"), num(1), num(9)),
		row(text("b"), num(2), num(2)), row(text("c"), num(2), num(2)), row(text("e"), text("0"), num(2)), row(text("z"), num(-1), text("2")))
	l := nodes(leaf(api.Text, "there", 0, -1))
	for _, c := range []struct {
		kind int
		want []string // of each row: its iter, the node's place, and its text
	}{
		{api.Attr, names("{2 2 } 1 a b c d e", "{2 1 } 2 x", "{3 0 2} 3 z", "{2 2 } 4 a b c d e", "{2 3 } 5 ")},
		{api.Text, names("{2 2 } 1 a b c d e", "{2 1 } 2 x", "{3 0 2} 3 z", "{2 2 } 4 a b c d e")},
		{api.Elem, names("{2 2 } 1 a b c d e", "{2 1 } 3 x", "{3 0 2} 5 z", "{2 2 } 7 a b c d e", "{2 3 } 9 ")},
	} {
		build := api.Op{Kind: api.Build, In: at(0, 1), N: c.kind, Name: "k"}
		r, made := told(t, api.Plan{loop, items, build, {Kind: api.Rank, In: at(2), New: "pos"}}, l)
		if store.Check(made) != api.OK || made[0] != l[0] {
			t.Errorf("kind %d: nodes %v", c.kind, made)
		}
		var got []string
		for _, x := range r.Rows {
			s, _ := store.Text(made, x[1].N)
			if top := made[x[1].N]; top.Kind != c.kind || top.Level != 0 || top.Parent != -1 {
				t.Errorf("kind %d: %v", c.kind, top)
			}
			got = append(got, fmt.Sprint(x[0], x[1].N, " ", s))
		}
		if !slices.Equal(got, c.want) {
			t.Errorf("kind %d: %q, want %q", c.kind, got, c.want)
		}
	}
}

// P7.8: nodes that were made ahead stay, and are content as others are.
func TestBuildTwice(t *testing.T) {
	p := api.Plan{
		table("iter pos item", row(num(1), num(1), text("x"))),
		{Kind: api.Build, In: at(0, 0), N: api.Attr, Name: "k"},
		{Kind: api.Build, In: at(0, 0), N: api.Text},
		{Kind: api.Union, In: at(1, 2)},
		{Kind: api.Rank, In: at(3), New: "pos", Cols: names("item")},
		{Kind: api.Build, In: at(0, 4), N: api.Elem, Name: "e"},
		{Kind: api.Rank, In: at(5), New: "pos"},
		{Kind: api.Build, In: at(0, 6), N: api.Elem, Name: "f"},
		{Kind: api.Rank, In: at(7), New: "pos"},
	}
	r, made := told(t, p, nil)
	want := nodes(attr("k", "x", 0, -1), leaf(api.Text, "x", 0, -1), elem("e", 2, 0, -1), attr("k", "x", 1, 2), leaf(api.Text, "x", 1, 2),
		elem("f", 3, 0, -1), elem("e", 2, 1, 5), attr("k", "x", 2, 6), leaf(api.Text, "x", 2, 6))
	if !slices.Equal(made, want) || !sameRows(r.Rows, [][]api.Item{{num(1), node(5), num(1)}}) {
		t.Errorf("%v %v", r, made)
	}
}

// P7.8: content with an iter that no row of the loop has is not looked at.
func TestBuildElsewhere(t *testing.T) {
	long := strings.Repeat("x", api.MaxText)
	p := api.Plan{
		table("iter", row(num(1))),
		table("iter pos item", row(num(2), num(1), text(long)), row(num(2), num(2), text(long)), row(num(1), num(1), text("a"))),
		{Kind: api.Build, In: at(0, 1), N: api.Attr, Name: "k"},
		{Kind: api.Rank, In: at(2), New: "pos"},
	}
	if r, made := told(t, p, nil); len(r.Rows) != 1 || !slices.Equal(made, nodes(attr("k", "a", 0, -1))) {
		t.Errorf("%v %v", r, made)
	}
	p[0].Rel.Rows = nil
	if r, made := told(t, p, nil); len(r.Rows) > 0 || len(made) > 0 {
		t.Errorf("no loop: %v %v", r, made)
	}
	p[0].Rel.Rows = [][]api.Item{{num(1)}, {num(2)}}
	refusedEval(t, "the second row", p, nil, api.ErrValue)
}

// P7.8: how many nodes there may be; what may not be is told ahead of that.
func TestBuildMany(t *testing.T) {
	iters := make([][]api.Item, api.MaxNodes/2)
	for i := range iters {
		iters[i] = row(num(i%7), num(0), text("x"))
	}
	p := func(rows ...[]api.Item) api.Plan {
		return api.Plan{
			table("iter pos item", rows...),
			{Kind: api.Unique, In: at(0), Cols: names("iter")},
			{Kind: api.Build, In: at(0, 1), N: api.Elem, Name: "e"},
			{Kind: api.Rank, In: at(2), New: "pos"},
		}
	}
	r, made := told(t, p(iters...), nil)
	if len(r.Rows) != len(iters) || len(made) != api.MaxNodes || made[api.MaxNodes-2] != elem("e", 1, 0, -1) || made[api.MaxNodes-1] != leaf(api.Text, "x", 1, api.MaxNodes-2) {
		t.Errorf("as many as may be: %d rows, %d nodes", len(r.Rows), len(made))
	}
	refusedEval(t, "a node too many", p(iters...), nodes(elem("a", 0, 0, -1)), api.ErrSize)
	more := append(slices.Clone(iters), row(num(0), num(0), text("x")))
	refusedEval(t, "nodes too many", p(more...), nil, api.ErrSize)
	refusedEval(t, "an op that comes next", append(p(iters...), p(row(num(1), num(0), text("x")))[0],
		api.Op{Kind: api.Build, In: at(4, 4), N: api.Text}, last()), nil, api.ErrSize)
	if _, made := told(t, append(p(iters...), table("iter pos item"), api.Op{Kind: api.Build, In: at(0, 4), N: api.Text}, last()), nil); len(made) != api.MaxNodes {
		t.Errorf("nothing more: %d", len(made))
	}
	long := text(strings.Repeat("x", api.MaxText))
	wrong := row(text("w"), num(0), long)
	plan := p(append(more, wrong)...)
	plan[1] = table("iter pos item", append(slices.Clone(iters[:7]), wrong, wrong)...)
	refusedEval(t, "nodes too many, and what may not be", plan, nil, api.ErrValue)
	plan[1] = table("iter pos item", append(slices.Clone(iters[:7]), wrong)...)
	refusedEval(t, "nodes too many, and what may be", plan, nil, api.ErrSize)
}

// P7.8: one node with too many within it.
func TestBuildGreat(t *testing.T) {
	l := nodes(elem("r", 999, 0, -1))
	for len(l) < 1000 {
		l = append(l, elem("a", 0, 1, 0))
	}
	copies := func(n int) api.Plan {
		p := api.Plan{{Kind: api.Source}, table("iter pos"), {Kind: api.Cross, In: at(1, 0)}, table("iter", row(num(1))),
			{Kind: api.Build, In: at(3, 2), N: api.Elem, Name: "e"}, {Kind: api.Rank, In: at(4), New: "pos"}}
		for i := range n {
			p[1].Rel.Rows = append(p[1].Rel.Rows, row(num(1), num(i)))
		}
		return p
	}
	_, made := told(t, copies(98), l)
	if len(made) != 99001 || store.Check(made) != api.OK {
		t.Errorf("%d nodes", len(made))
	}
	refusedEval(t, "one too many", copies(99), l, api.ErrSize)
	refusedEval(t, "many too many", copies(100000), l, api.ErrSize)
}
