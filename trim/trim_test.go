package trim_test

import (
	"slices"
	"strings"
	"testing"

	"pleacher/api"
	"pleacher/run"
)

// P9.1: the columns pos and item alone are told, in that order; the rows stand in theirs, and none is left out.
func TestColumnsAndRows(t *testing.T) {
	rows := [][]api.Item{row(num(2), text("x")), row(num(1), text("y")), row(num(2), text("x")), row(num(-1), yes)}
	with := func(cols string) api.Op {
		op := table(cols)
		for i, x := range rows {
			l := map[string]api.Item{"pos": x[0], "item": x[1]}
			var whole []api.Item
			for _, c := range op.Rel.Cols {
				if _, there := l[c]; !there {
					l[c] = num(i)
				}
				whole = append(whole, l[c])
			}
			op.Rel.Rows = append(op.Rel.Rows, whole)
		}
		return op
	}
	for _, c := range []struct {
		cols string
		ops  int
	}{{"pos item", 1}, {"item pos", 2}, {"iter pos item", 2}, {"item a b c d e f pos", 2}} {
		p := api.Plan{with(c.cols)}
		q := trimmed(t, p, nil)
		r, _, e := run.Eval(q, nil)
		if len(q) != c.ops || e != api.OK || !slices.Equal(r.Cols, names("pos", "item")) || !sameRows(r.Rows, rows) {
			t.Errorf("%s: %v tells %v %d", c.cols, q, r, e)
		}
	}
}

// P9.1: a Project at the end is made narrower; none stands on it.
func TestNarrowed(t *testing.T) {
	p := three()[:1]
	p = append(p, api.Op{Kind: api.Project, In: at(0), Cols: names("iter", "item", "x", "pos"), Olds: names("item", "pos", "pos", "iter")})
	q := trimmed(t, p, nil)
	r, _, _ := run.Eval(q, nil)
	if len(q) != 2 || !sameRows(r.Rows, [][]api.Item{row(num(1), num(2)), row(num(1), num(1)), row(num(2), num(1))}) {
		t.Errorf("%v tells %v", q, r)
	}
}

// P9.1: what is refused is refused with the same error: that of the first op which is, whether it is used, or there twice.
func TestErrors(t *testing.T) {
	numbers, texts, none := table("iter pos item", row(num(1), num(1), num(1))), table("iter pos item", row(num(1), num(1), text("x"))), api.Op{Kind: api.Source}
	walk := api.Op{Kind: api.Walk, In: at(0), Axis: api.Self, Test: anyNode}
	longest := text(strings.Repeat("x", api.MaxText))
	long := table("iter pos item", row(num(1), num(1), longest), row(num(1), num(2), longest))
	for _, c := range []struct {
		name string
		p    api.Plan
		want api.Errno // over no nodes
	}{
		{"a Source", api.Plan{numbers, none, last()}, api.ErrNone},
		{"a Select", api.Plan{numbers, choose(0, "item"), last()}, api.ErrValue},
		{"an Apply", api.Plan{texts, apply(0, "v", "neg", "item"), last()}, api.ErrValue},
		{"a Walk", api.Plan{numbers, walk, last()}, api.ErrValue},
		{"a Build", api.Plan{long, build(0, 0, api.Attr, "k"), last()}, api.ErrValue},
		{"a sum", api.Plan{texts, group(0, "sum"), last()}, api.ErrValue},
		{"a least one", api.Plan{texts, group(0, "min"), last()}, api.ErrValue},
		{"a greatest one", api.Plan{texts, group(0, "max"), last()}, api.ErrValue},
		{"a count of what is refused", api.Plan{texts, apply(0, "v", "neg", "item"), group(1, "count"), last()}, api.ErrValue},
		{"a count", api.Plan{texts, group(0, "count"), last()}, api.OK},
		{"a sum of numbers", api.Plan{numbers, group(0, "sum"), last()}, api.OK},
		{"a Source ahead", api.Plan{numbers, none, choose(0, "item"), last()}, api.ErrNone},
		{"a Source behind", api.Plan{numbers, choose(0, "item"), none, last()}, api.ErrValue},
		{"a Source on both sides", api.Plan{numbers, none, choose(0, "item"), none, last()}, api.ErrNone},
		{"a Select on both sides", api.Plan{numbers, choose(0, "item"), none, choose(0, "item"), last()}, api.ErrValue},
		{"the last one", api.Plan{numbers, none, choose(0, "item")}, api.ErrNone},
		{"the last one, there twice", api.Plan{numbers, choose(0, "item"), none, choose(0, "item")}, api.ErrValue},
		{"behind the answer", api.Plan{last(), none, last()}, api.ErrNone},
	} {
		q := trimmed(t, c.p, nil)
		if _, _, e := run.Eval(q, nil); e != c.want {
			t.Errorf("%s: refused %d, want %d", c.name, e, c.want)
		}
	}
}

// P9.1: all nodes are made, each as often as it was, even if nothing is made of them; also where there were none.
func TestNodes(t *testing.T) {
	loop := table("iter pos item", row(num(1), num(1), text("x")), row(num(2), num(1), yes))
	b := build(0, 0, api.Elem, "e")
	walk := api.Op{Kind: api.Walk, In: at(1), Axis: api.Child, Test: anyNode}
	rank := func(in int) api.Op { return api.Op{Kind: api.Rank, In: at(in), New: "pos"} }
	for _, c := range []struct {
		name  string
		p     api.Plan
		ops   int
		nodes int // that are made over none; -1: refused
	}{
		{"for nothing", api.Plan{loop, b, last()}, 3, 4},
		{"twice", api.Plan{loop, b, b, build(0, 0, api.Text, ""), build(0, 0, api.Text, ""), last()}, 6, 12},
		{"once, ahead of a Source", api.Plan{loop, build(0, 0, api.Text, ""), {Kind: api.Source}, {Kind: api.Source}, rank(3)}, 5, 2},
		{"once, behind a Source", api.Plan{loop, {Kind: api.Source}, build(0, 0, api.Text, ""), {Kind: api.Source}, rank(3)}, 5, -1},
		{"between two steps that are the same", api.Plan{loop, b, walk, b, walk, rank(4)}, 6, 8},
		{"between functions that are the same", api.Plan{loop, b, apply(1, "v", "data", "item"), b, apply(1, "v", "data", "item"), rank(4)}, 6, 8},
		{"from each other", api.Plan{loop, b, rank(1), build(0, 2, api.Elem, "e"), rank(1), build(0, 4, api.Elem, "e"), last()}, 6, 16},
	} {
		q := trimmed(t, c.p, nil)
		_, after, e := run.Eval(q, nil)
		if len(q) != c.ops || e == api.OK && len(after) != c.nodes || (e == api.ErrNone) != (c.nodes < 0) {
			t.Errorf("%s: %d ops, %d nodes, %d; want %d, %d", c.name, len(q), len(after), e, c.ops, c.nodes)
		}
	}
}

// P9.1: where a plan is refused with ErrSize, the trimmed one need not be; it ends.
func TestTooMuch(t *testing.T) {
	p := api.Plan{table("a", slices.Repeat([][]api.Item{row(num(1))}, 1001)...), table("b", slices.Repeat([][]api.Item{row(num(1))}, 1001)...),
		{Kind: api.Cross, In: at(0, 1)}, last()}
	if _, _, e := run.Eval(p, nil); e != api.ErrSize {
		t.Fatalf("refused %d", e)
	}
	q := trimmed(t, p, nil)
	if r, _, e := run.Eval(q, nil); len(q) != 1 || e != api.OK || len(r.Rows) != 1 {
		t.Errorf("%d ops: %v %d", len(q), r, e)
	}
}
