package run_test

import (
	"slices"
	"testing"

	"pleacher/api"
	"pleacher/rel"
	"pleacher/run"
)

// told by the last op of a plan, over nodes.
func told(t *testing.T, p api.Plan, l []api.Node) (api.Rel, []api.Node) {
	t.Helper()
	r, made, e := run.Eval(p, l)
	if e != api.OK {
		t.Fatalf("%v: %d", p, e)
	}
	return r, made
}

// P7.3: which of several refusals is told.
func TestEvalRefused(t *testing.T) {
	l := shred(t, "<r/>")
	wrong := append(slices.Clone(l), api.Node{Kind: api.Text, Parent: 0, Level: 1})
	many := slices.Repeat([]api.Node{{Kind: api.Text, Parent: -1}}, api.MaxNodes+1)
	noValue := append(two(), api.Op{Kind: api.Apply, In: at(0), New: "v", Name: "integer", Cols: names("item")}, last())
	refusedEval(t, "wrong nodes", api.Plan{last()}, wrong, api.ErrForm)
	refusedEval(t, "too many nodes", api.Plan{last()}, many, api.ErrSize)
	refusedEval(t, "wrong nodes ahead of no plan", nil, wrong, api.ErrForm)
	refusedEval(t, "wrong nodes ahead of a wrong op", api.Plan{{Kind: 99}}, wrong, api.ErrForm)
	refusedEval(t, "no plan", nil, l, api.ErrShort)
	refusedEval(t, "an op that no other one needs", noValue, l, api.ErrValue)
	refusedEval(t, "a wrong op ahead of one without a value", append(slices.Clone(noValue), api.Op{Kind: 99}), l, api.ErrKind)
	refusedEval(t, "no pos ahead of no value", append(slices.Clone(noValue), table("item")), l, api.ErrCols)
	refusedEval(t, "the first op without a value", append(slices.Clone(noValue), source(4)...), nil, api.ErrValue)
	refusedEval(t, "the first op without a value", append(source(0), append(noValue[1:2:2], api.Op{Kind: api.Select, In: at(2), Cols: names("b")}, last())...), nil, api.ErrNone)
}

// P7.3: a Source is one row, with the node 0.
func TestSource(t *testing.T) {
	refusedEval(t, "no nodes", source(0), nil, api.ErrNone)
	for _, l := range [][]api.Node{shred(t, "<r>x</r>"), {{Kind: api.Text, Value: "x", Parent: -1}}} {
		r, made := told(t, source(0), l)
		if !slices.Equal(r.Cols, names("item", "pos")) || !sameRows(r.Rows, [][]api.Item{{node(0), num(1)}}) || !slices.Equal(made, l) {
			t.Errorf("%v %v", r, made)
		}
	}
	build := api.Plan{two()[0], {Kind: api.Build, In: at(0, 0), N: api.Elem, Name: "e"}}
	if r, made := told(t, append(build, source(2)...), nil); !sameRows(r.Rows, [][]api.Item{{node(0), num(1)}}) || len(made) != 2 {
		t.Errorf("a node that was made: %v %v", r, made)
	}
	refusedEval(t, "no node yet", append(source(0), two()[0], api.Op{Kind: api.Build, In: at(2, 2), N: api.Elem, Name: "e"}, last()), nil, api.ErrNone)
}

// P7.3: a Table tells its Rel, in memory of its own.
func TestTable(t *testing.T) {
	r := api.Rel{Cols: names("item", "n", "pos"), Rows: [][]api.Item{{text("é"), yes, num(-1)}, {no, no, no}, {text(""), num(api.MaxInt), yes}}}
	got, made := told(t, api.Plan{{Kind: api.Table, Rel: r}}, nil)
	if !sameRel(got, r) || len(made) > 0 {
		t.Errorf("%v %v", got, made)
	}
	got.Cols[0], got.Rows[1][0] = "x", num(7)
	if r.Cols[0] != "item" || r.Rows[1][0] != no {
		t.Errorf("what was handed in is %v", r)
	}
}

// P7.3: what package rel has is done by it.
func TestRelated(t *testing.T) {
	a := api.Rel{Cols: names("iter", "pos", "item"), Rows: [][]api.Item{
		{num(2), num(3), yes}, {num(1), num(1), no}, {num(2), num(1), yes}, {num(2), num(3), no}, {num(1), num(2), yes}}}
	b := api.Rel{Cols: names("iter", "pos", "item"), Rows: [][]api.Item{{num(2), num(3), no}, {num(9), num(1), yes}}}
	c := api.Rel{Cols: names("x", "y"), Rows: [][]api.Item{{num(2), text("a")}, {num(1), text("b")}, {num(2), text("c")}}}
	p := api.Plan{{Kind: api.Table, Rel: a}, {Kind: api.Table, Rel: b}, {Kind: api.Table, Rel: c}}
	back := api.Op{Kind: api.Project, In: at(3), Cols: names("pos", "item"), Olds: names("n", "iter")}
	check := func(op api.Op, want api.Rel, e api.Errno) {
		t.Helper()
		plan := append(slices.Clone(p), op)
		if !slices.Contains(want.Cols, "pos") || !slices.Contains(want.Cols, "item") {
			plan = append(plan, back)
			want, _ = rel.Project(want, back.Cols, back.Olds)
		}
		if got, _, f := run.Eval(plan, nil); f != e || !sameRel(got, want) {
			t.Errorf("%v: %v %d, want %v %d", op, got, f, want, e)
		}
	}
	r, e := rel.Project(a, names("item", "pos"), names("iter", "item"))
	check(api.Op{Kind: api.Project, In: at(0), Cols: names("item", "pos"), Olds: names("iter", "item")}, r, e)
	r, e = rel.Select(a, "item")
	check(api.Op{Kind: api.Select, In: at(0), Cols: names("item")}, r, e)
	r, e = rel.Join(a, c, "iter", "x")
	check(api.Op{Kind: api.Join, In: at(0, 2), Cols: names("iter", "x")}, r, e)
	r, e = rel.Join(c, a, "x", "pos")
	check(api.Op{Kind: api.Join, In: at(2, 0), Cols: names("x", "pos")}, r, e)
	r, e = rel.Cross(c, a)
	check(api.Op{Kind: api.Cross, In: at(2, 0)}, r, e)
	r, e = rel.Union(b, a)
	check(api.Op{Kind: api.Union, In: at(1, 0)}, r, e)
	r, e = rel.Except(a, b, names("pos", "iter"))
	check(api.Op{Kind: api.Except, In: at(0, 1), Cols: names("pos", "iter")}, r, e)
	r, e = rel.Except(b, a, names("iter"))
	check(api.Op{Kind: api.Except, In: at(1, 0), Cols: names("iter")}, r, e)
	r, e = rel.Unique(a, names("iter", "pos"))
	check(api.Op{Kind: api.Unique, In: at(0), Cols: names("iter", "pos")}, r, e)
	r, e = rel.Rank(a, "n", names("pos", "item"), "iter")
	check(api.Op{Kind: api.Rank, In: at(0), New: "n", Cols: names("pos", "item"), Part: "iter"}, r, e)
	r, e = rel.Rank(a, "n", names("item"), "")
	check(api.Op{Kind: api.Rank, In: at(0), New: "n", Cols: names("item")}, r, e)
	r, e = rel.Sort(a, names("item", "iter"))
	check(api.Op{Kind: api.Sort, In: at(0), Cols: names("item", "iter")}, r, e)
	for _, which := range names("count", "sum", "min", "max") {
		r, e = rel.Group(a, "n", "iter", which, "pos")
		check(api.Op{Kind: api.Group, In: at(0), New: "n", Part: "iter", Name: which, Cols: names("pos")}, r, e)
	}
}

// P7.3: what package rel refuses of the rows is refused so.
func TestRelatedRefused(t *testing.T) {
	thousand := make([][]api.Item, 1001)
	for i := range thousand {
		thousand[i] = row(num(1), num(i))
	}
	p := append(two(), table("x y", thousand...), table("u v", thousand[1:]...))
	for _, c := range []struct {
		op   api.Op
		want api.Errno
	}{
		{api.Op{Kind: api.Select, In: at(0), Cols: names("item")}, api.ErrValue},
		{api.Op{Kind: api.Select, In: at(1), Cols: names("c")}, api.ErrValue},
		{api.Op{Kind: api.Group, In: at(0), New: "n", Part: "iter", Name: "sum", Cols: names("item")}, api.ErrValue},
		{api.Op{Kind: api.Group, In: at(1), New: "n", Part: "b", Name: "min", Cols: names("a")}, api.ErrValue},
		{api.Op{Kind: api.Join, In: at(2, 3), Cols: names("x", "u")}, api.ErrSize},
		{api.Op{Kind: api.Cross, In: at(2, 3)}, api.ErrSize},
	} {
		plan := append(slices.Clone(p), c.op, last())
		if _, e := run.Columns(plan); e != api.OK {
			t.Errorf("%v: Columns: %d", c.op, e)
		}
		refusedEval(t, "rows", plan, nil, c.want)
	}
	refusedEval(t, "rows of the last op", append(two(), api.Op{Kind: api.Select, In: at(0), Cols: names("pos")}), nil, api.ErrValue)
}

// What one op tells may be what many others are made of, and those that none is made of are told, too.
func TestShared(t *testing.T) {
	p := api.Plan{
		table("pos item", row(num(2), num(20)), row(num(1), num(10))),
		{Kind: api.Sort, In: at(0), Cols: names("pos")},
		{Kind: api.Union, In: at(0, 0)},
		{Kind: api.Union, In: at(1, 0)},
		{Kind: api.Sort, In: at(2), Cols: names("item")},
		{Kind: api.Union, In: at(3, 1)},
	}
	want := [][]api.Item{{num(1), num(10)}, {num(2), num(20)}, {num(2), num(20)}, {num(1), num(10)}, {num(1), num(10)}, {num(2), num(20)}}
	if r, _ := told(t, p, nil); !sameRows(r.Rows, want) {
		t.Errorf("%v", r)
	}
	p = append(p, table("item pos"))
	if r, _ := told(t, p, nil); !sameRel(r, api.Rel{Cols: names("item", "pos")}) {
		t.Errorf("the last op, though it is of no other one: %v", r)
	}
}
