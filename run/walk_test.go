package run_test

import (
	"slices"
	"testing"

	"pleacher/api"
	"pleacher/run"
	"pleacher/stair"
)

// numbered: all nodes of the first tree, but attributes, with numbers in the column n, in their order; the last of some ops
// from a place on.
func numbered(place int) api.Plan {
	return api.Plan{
		{Kind: api.Source},
		table("iter", row(num(0))),
		{Kind: api.Cross, In: at(place, place+1)},
		{Kind: api.Walk, In: at(place + 2), Axis: api.DescendantOrSelf, Test: anyNode},
		{Kind: api.Project, In: at(place + 3), Cols: names("item"), Olds: names("item")},
		{Kind: api.Rank, In: at(place + 4), New: "n", Cols: names("item")},
	}
}

// walked from nodes that are told by their numbers, with iters of any kind: k is the number of a node.
func walked(axis int, test api.Test, from ...[]api.Item) api.Plan {
	p := numbered(0)
	return append(p,
		table("iter k", from...),
		api.Op{Kind: api.Join, In: at(len(p), len(p)-1), Cols: names("k", "n")},
		api.Op{Kind: api.Walk, In: at(len(p) + 1), Axis: axis, Test: test},
		api.Op{Kind: api.Rank, In: at(len(p) + 2), New: "pos"},
	)
}

// wanted: rows of an iter and nodes, numbered.
type wanted struct {
	iter  api.Item
	nodes []int
}

func wantedRows(l ...wanted) [][]api.Item {
	var rows [][]api.Item
	for _, w := range l {
		for _, n := range w.nodes {
			rows = append(rows, row(w.iter, node(n), num(len(rows)+1)))
		}
	}
	return rows
}

// P7.7
func TestWalk(t *testing.T) {
	l := shred(t, `<r><a k="1"><b/><c/></a><a><b/></a><c/></r>`)
	// 0 the document, 1 r, 2 a, 3 @k, 4 b, 5 c, 6 a, 7 b, 8 c; by number: 1 to 3, without @k 4 to 8
	for _, c := range []struct {
		what string
		axis int
		test api.Test
		from [][]api.Item
		want []wanted
	}{
		{"one iteration", api.Child, anyNode, [][]api.Item{{num(1), num(2)}}, []wanted{{num(1), at(2, 6, 8)}}},
		{"many nodes at once, each once, by their places", api.Parent, anyNode,
			[][]api.Item{{num(1), num(8)}, {num(1), num(5)}, {num(1), num(4)}, {num(1), num(8)}}, []wanted{{num(1), at(1, 2)}}},
		{"the order in which iterations come first", api.Child, anyNode,
			[][]api.Item{{num(2), num(6)}, {num(1), num(2)}, {num(2), num(3)}, {num(1), num(2)}}, []wanted{{num(2), at(4, 5, 7)}, {num(1), at(2, 6, 8)}}},
		{"the same nodes in two iterations", api.Self, anyNode, [][]api.Item{{num(9), num(3)}, {num(4), num(3)}}, []wanted{{num(9), at(2)}, {num(4), at(2)}}},
		{"iters of any kind", api.Self, anyNode, [][]api.Item{{text("1"), num(3)}, {num(1), num(2)}, {yes, num(1)}, {text("1"), num(2)}},
			[]wanted{{text("1"), at(1, 2)}, {num(1), at(1)}, {yes, at(0)}}},
		{"a test", api.Descendant, api.Test{Kind: api.NameTest, Name: "b"}, [][]api.Item{{num(1), num(1)}, {num(2), num(6)}, {num(3), num(7)}},
			[]wanted{{num(1), at(4, 7)}, {num(2), at(7)}}},
		{"attributes", api.Attribute, anyNode, [][]api.Item{{num(1), num(2)}, {num(2), num(3)}, {num(3), num(6)}}, []wanted{{num(2), at(3)}}},
		{"nothing", api.Child, api.Test{Kind: api.TextTest}, [][]api.Item{{num(1), num(1)}}, nil},
		{"no rows", api.Child, anyNode, nil, nil},
	} {
		r, made := told(t, walked(c.axis, c.test, c.from...), l)
		if !sameRel(r, api.Rel{Cols: names("iter", "item", "pos"), Rows: wantedRows(c.want...)}) || !slices.Equal(made, l) {
			t.Errorf("%s: %v", c.what, r)
		}
	}
}

// P7.7: all axes, as package stair tells.
func TestWalkAxes(t *testing.T) {
	l := sample(t)
	byNumber := at(0, 1, 3, 4, 6, 7, 8)
	for axis := api.Child; axis <= api.Attribute; axis++ {
		for kind := api.AnyNode; kind <= api.AnyNamed; kind++ {
			test := api.Test{Kind: kind, Name: "a"}
			var from [][]api.Item
			var want []wanted
			for i, n := range byNumber {
				from = append(from, row(num(-i), num(i+1)), row(num(-i), num(4)))
				found, e := stair.Walk(l, at(n, byNumber[3]), axis, test)
				if e != api.OK {
					t.Fatal(e)
				}
				want = append(want, wanted{num(-i), found})
			}
			if r, _ := told(t, walked(axis, test, from...), l); !sameRows(r.Rows, wantedRows(want...)) {
				t.Errorf("axis %d, test %d: %v, want %v", axis, kind, r.Rows, want)
			}
		}
	}
}

// P7.7: an item that is no node, wherever it stands.
func TestWalkWrong(t *testing.T) {
	for _, x := range row(num(0), text(""), yes) {
		refusedEval(t, "no node", api.Plan{table("iter item", row(num(1), x)), {Kind: api.Walk, In: at(0), Axis: api.Self, Test: anyNode}, last()}, sample(t), api.ErrValue)
	}
	p := append(numbered(0), table("item n", row(num(0), num(0))), api.Op{Kind: api.Union, In: at(5, 6)},
		api.Op{Kind: api.Project, In: at(7), Cols: names("iter", "item"), Olds: names("n", "item")},
		api.Op{Kind: api.Walk, In: at(8), Axis: api.Self, Test: anyNode}, last())
	refusedEval(t, "a node, and behind it none", p, sample(t), api.ErrValue)
}

// P7.7: nodes that were made are there as others are.
func TestWalkMade(t *testing.T) {
	p := api.Plan{
		table("iter pos item", row(num(1), num(1), text("x")), row(num(2), num(1), text("y"))),
		{Kind: api.Build, In: at(0, 0), N: api.Elem, Name: "e"},
		{Kind: api.Walk, In: at(1), Axis: api.Child, Test: anyNode},
		{Kind: api.Apply, In: at(2), New: "pos", Name: "string", Cols: names("item")},
	}
	l := sample(t)
	r, made := told(t, p, l)
	want := [][]api.Item{{num(1), node(len(l) + 1), text("x")}, {num(2), node(len(l) + 3), text("y")}}
	if !sameRows(r.Rows, want) || len(made) != len(l)+4 {
		t.Errorf("%v %v", r, made)
	}
}

// A relation has at most MaxRows rows: more steps than that are refused; and a great many small ones do not take long.
func TestWalkMany(t *testing.T) {
	l := []api.Node{{Kind: api.Elem, Name: "r", Size: api.MaxNodes - 1, Parent: -1}}
	for len(l) < api.MaxNodes {
		l = append(l, api.Node{Kind: api.Elem, Name: "a", Level: 1})
	}
	each := append(numbered(0), api.Op{Kind: api.Project, In: at(5), Cols: names("iter", "item"), Olds: names("n", "item")})
	r, _ := told(t, append(each, api.Op{Kind: api.Walk, In: at(6), Axis: api.Parent, Test: anyNode}, api.Op{Kind: api.Rank, In: at(7), New: "pos"}), l)
	if len(r.Rows) != api.MaxNodes-1 {
		t.Errorf("%d rows", len(r.Rows))
	}
	iters := make([][]api.Item, 11)
	for i := range iters {
		iters[i] = row(num(i), num(1))
	}
	test := api.Test{Kind: api.NameTest, Name: "a"}
	r, _ = told(t, walked(api.Child, test, iters[:10]...), l)
	if len(r.Rows) != 10*(api.MaxNodes-1) {
		t.Errorf("%d rows", len(r.Rows))
	}
	if _, _, e := run.Eval(walked(api.DescendantOrSelf, anyNode, iters[:10]...), l); e != api.OK {
		t.Errorf("as many as may be: %d", e)
	}
	p := walked(api.Child, test, iters...)
	p[len(p)-1] = last()
	refusedEval(t, "more than may be", p, l, api.ErrSize)
}
