package trim_test

import (
	"slices"
	"testing"

	"pleacher/api"
	"pleacher/run"
)

// used: a plan in which all ops from a place on are used, by ops of another Kind, so that none of them is there for nothing.
// It is looked at, not evaluated.
func used(t *testing.T, p api.Plan, from int) api.Plan {
	t.Helper()
	cols, e := run.Columns(append(slices.Clone(p), last()))
	if e != api.OK {
		t.Fatalf("refused %d: %v", e, p)
	}
	with := slices.Clone(p)
	for i := from; i < len(p); i++ {
		user := choose(i, cols[i][0])
		if p[from].Kind == api.Select {
			user = apply(i, "user", "string", cols[i][0])
		}
		with = append(with, user)
	}
	return append(with, last())
}

// ofKind: how many ops of a plan are of a Kind.
func ofKind(p api.Plan, kind int) int {
	n := 0
	for _, op := range p {
		if op.Kind == kind {
			n++
		}
	}
	return n
}

// P9.2: no two ops are the same, whatever they have beside what their Kind has; such that build nodes stay.
func TestTwice(t *testing.T) {
	for _, op := range ofAllKinds() {
		other := junk(op)
		other.In = slices.Clone(op.In)
		for i := range other.In { // what it is made of is there twice, too
			other.In[i] += 3
		}
		p := slices.Concat(three(), three(), api.Plan{op, other, op})
		want := 1
		switch op.Kind {
		case api.Build:
			want = 3
		case api.Table:
			want = 2 // with the last op
		}
		q := trimmed(t, used(t, p, 6), nil)
		if got := ofKind(q, op.Kind); got != want {
			t.Errorf("Kind %d: %d, want %d: %v", op.Kind, got, want, q)
		}
	}
}

// P9.2: a chain of ops that is there twice is there once.
func TestChains(t *testing.T) {
	chain := func(from int) api.Plan {
		return api.Plan{
			table("iter pos item", row(num(1), num(1), text("1"))),
			apply(from, "v", "integer", "item"),
			{Kind: api.Project, In: at(from + 1), Cols: names("iter", "pos", "item"), Olds: names("iter", "pos", "v")},
			{Kind: api.Union, In: at(from+2, from)},
			{Kind: api.Sort, In: at(from + 3), Cols: names("item")},
		}
	}
	p := slices.Concat(chain(0), chain(5), chain(10))
	p = append(p, api.Op{Kind: api.Union, In: at(14, 9)}, api.Op{Kind: api.Union, In: at(15, 4)}, project(16, "pos", "item"))
	q := trimmed(t, p, nil)
	r, _, e := run.Eval(q, nil)
	if len(q) != 8 || e != api.OK || len(r.Rows) != 6 {
		t.Errorf("%v tells %v %d", q, r, e)
	}
}

// variants: by Kind, ops over three no two of which are the same, but all but the same.
func variants() [][]api.Op {
	walk := func(in, axis, kind int, name string) api.Op {
		return api.Op{Kind: api.Walk, In: at(in), Axis: axis, Test: api.Test{Kind: kind, Name: name}}
	}
	of := func(kind int, in []int, cols ...string) api.Op { return api.Op{Kind: kind, In: in, Cols: cols} }
	rank := func(in int, name, part string, cols ...string) api.Op {
		return api.Op{Kind: api.Rank, In: at(in), New: name, Part: part, Cols: cols}
	}
	named := func(cols, olds []string) api.Op { return api.Op{Kind: api.Project, In: at(0), Cols: cols, Olds: olds} }
	grouped := func(in int, name, part, aggregate, col string) api.Op {
		return api.Op{Kind: api.Group, In: at(in), New: name, Part: part, Name: aggregate, Cols: names(col)}
	}
	return [][]api.Op{
		{table("a b", row(num(1), num(2))), table("b a", row(num(1), num(2))), table("a b"), table("a b", row(num(1), num(2)), row(num(1), num(2))),
			table("a b", row(num(2), num(1))), table("a b", row(num(1), yes)), table("a b", row(num(1), no)), table("a b", row(num(1), text("2"))),
			table("a b", row(num(1), text(""))), table("a b", row(text("1 3"), text("2"))), table("a b", row(text("1"), text("3 2"))),
			table("a b", row(text("13"), text("2"))), table("a b", row(text("1"), text("32"))), table("ab c"), table("a bc"), table("ab", row(num(12))),
			table("ab", row(num(1)), row(num(2))), table("ab", row(num(2)), row(num(1)))},
		{named(names("x"), names("pos")), named(names("y"), names("pos")), named(names("x"), names("item")), named(names("x", "y"), names("pos", "pos")),
			named(names("y", "x"), names("pos", "pos")), named(names("x", "y"), names("pos", "item")), project(1, "pos"), project(0, "pos")},
		{choose(0, "pos"), choose(1, "pos"), choose(0, "item")},
		{of(api.Join, at(0, 2), "iter", "c"), of(api.Join, at(1, 2), "iter", "c"), of(api.Join, at(2, 0), "c", "iter"), of(api.Join, at(0, 2), "pos", "c"),
			of(api.Join, at(0, 2), "iter", "b")},
		{of(api.Cross, at(0, 2)), of(api.Cross, at(2, 0)), of(api.Cross, at(1, 2))},
		{of(api.Union, at(0, 1)), of(api.Union, at(1, 0)), of(api.Union, at(0, 0))},
		{of(api.Except, at(0, 1), "iter"), of(api.Except, at(1, 0), "iter"), of(api.Except, at(0, 1)), of(api.Except, at(0, 1), "iter", "pos"),
			of(api.Except, at(0, 1), "pos")},
		{of(api.Unique, at(0), "iter"), of(api.Unique, at(1), "iter"), of(api.Unique, at(0)), of(api.Unique, at(0), "pos"), of(api.Unique, at(0), "iter", "pos")},
		{rank(0, "n", "iter", "pos"), rank(1, "n", "iter", "pos"), rank(0, "m", "iter", "pos"), rank(0, "n", "", "pos"), rank(0, "n", "pos", "iter"),
			rank(0, "n", "iter"), rank(0, "n", "iter", "pos", "item"), rank(0, "n", "iter", "item", "pos")},
		{grouped(0, "n", "iter", "count", "pos"), grouped(1, "n", "iter", "count", "pos"), grouped(0, "m", "iter", "count", "pos"),
			grouped(0, "n", "pos", "count", "pos"), grouped(0, "n", "iter", "sum", "pos"), grouped(0, "n", "iter", "count", "item"), grouped(0, "n", "iter", "min", "pos")},
		{apply(0, "v", "+", "iter", "pos"), apply(1, "v", "+", "iter", "pos"), apply(0, "w", "+", "iter", "pos"), apply(0, "v", "-", "iter", "pos"),
			apply(0, "v", "+", "pos", "iter"), apply(0, "v", "neg", "pos")},
		{walk(0, api.Child, api.AnyNode, ""), walk(1, api.Child, api.AnyNode, ""), walk(0, api.Self, api.AnyNode, ""), walk(0, api.Child, api.AnyNamed, ""),
			walk(0, api.Child, api.NameTest, ""), walk(0, api.Child, api.NameTest, "a"), walk(0, api.Child, api.NameTest, "b")},
		{of(api.Sort, at(0), "iter", "pos"), of(api.Sort, at(1), "iter", "pos"), of(api.Sort, at(0), "pos", "iter"), of(api.Sort, at(0)), of(api.Sort, at(0), "iter")},
	}
}

// P9.1: ops that differ in something that their Kind has are not taken for the same.
func TestUnlike(t *testing.T) {
	for _, ops := range variants() {
		kind, want := ops[0].Kind, len(ops)
		if kind == api.Table {
			want++ // with the last op
		}
		q := trimmed(t, used(t, slices.Concat(three(), ops), 3), nil)
		if got := ofKind(q, kind); got != want {
			t.Errorf("Kind %d: %d, want %d: %v", kind, got, want, q)
		}
	}
}

// P9.1: relations without columns are the same only if they have as many rows; ops of unlike Kinds never are.
func TestUnlikeRows(t *testing.T) {
	p := append(three(), table("", nil), table("", nil, nil), table(""), table("", nil, nil))
	for i := range 4 {
		p = append(p, api.Op{Kind: api.Cross, In: at(0, 3+i)})
	}
	p = append(p, api.Op{Kind: api.Unique, In: at(7)}, api.Op{Kind: api.Sort, In: at(7)}, api.Op{Kind: api.Union, In: at(11, 12)},
		api.Op{Kind: api.Union, In: at(13, 8)}, api.Op{Kind: api.Union, In: at(14, 9)}, api.Op{Kind: api.Union, In: at(15, 10)})
	q := trimmed(t, p, nil)
	r, _, e := run.Eval(q, nil)
	if len(q) != 1+3+3+2+4+1 || e != api.OK || len(r.Rows) != 1+3+6+0+6 {
		t.Errorf("%v tells %v %d", q, r, e)
	}
}

// P9.1: ops whose places, written one behind the other, are the same digits are not the same.
func TestUnlikePlaces(t *testing.T) {
	var p api.Plan
	for i := range 13 {
		p = append(p, table("pos item", row(num(i), text("x"))))
	}
	p = append(p, api.Op{Kind: api.Union, In: at(1, 12)}, api.Op{Kind: api.Union, In: at(11, 2)}, api.Op{Kind: api.Union, In: at(13, 14)})
	r, _, e := run.Eval(trimmed(t, p, nil), nil)
	if e != api.OK || len(r.Rows) != 4 || r.Rows[1][0] != num(12) || r.Rows[2][0] != num(11) {
		t.Errorf("%v %d", r, e)
	}
}

// P9.2: what is there for nothing goes, with all that is there for it alone; what might be refused, or builds, stays.
func TestForNothing(t *testing.T) {
	aggregates := []api.Op{group(0, "sum"), group(0, "min"), group(0, "max")}
	for _, op := range slices.Concat(ofAllKinds(), aggregates) {
		p := append(three(), op, last())
		q := trimmed(t, p, nil)
		want := 1
		if stays(op) {
			want += 1 + len(slices.Compact(slices.Clone(op.In)))
		}
		if len(q) != want {
			t.Errorf("Kind %d: %d ops, want %d: %v", op.Kind, len(q), want, q)
		}
		// An op over it is for nothing, too, whatever it is made of.
		cols, _ := run.Columns(p)
		p = append(three(), op, api.Op{Kind: api.Unique, In: at(3)}, api.Op{Kind: api.Rank, In: at(4), New: "more"}, project(5, cols[3][0]), last())
		if q := trimmed(t, p, nil); len(q) != want {
			t.Errorf("Kind %d, with ops over it: %d ops, want %d: %v", op.Kind, len(q), want, q)
		}
	}
}

// P9.2, P9.3: the last op may be the same as another one; what is behind that, and need not stay, goes.
func TestLast(t *testing.T) {
	all := three()[0]
	neg := apply(0, "v", "neg", "pos")
	sort := func(in int) api.Op { return api.Op{Kind: api.Sort, In: at(in), Cols: names("pos")} }
	for _, c := range []struct {
		name string
		p    api.Plan
		ops  int
	}{
		{"alone", api.Plan{last()}, 1},
		{"twice", api.Plan{last(), last()}, 1},
		{"with something for nothing between", api.Plan{last(), sort(0), last()}, 1},
		{"with an Apply between", api.Plan{last(), neg, last()}, 3},
		{"with an Apply of something else between", api.Plan{last(), all, apply(1, "v", "neg", "pos"), last()}, 4},
		{"with an Apply that is there twice", api.Plan{all, neg, sort(1), neg}, 3},
		{"with more columns", api.Plan{all, neg, all}, 3},
		{"narrowed already", api.Plan{all, project(0, "pos", "item"), apply(1, "v", "neg", "pos"), all}, 4},
		{"narrowed already, at the end", api.Plan{all, project(0, "pos", "item"), apply(1, "v", "neg", "pos"), project(0, "pos", "item")}, 4},
		{"narrowed twice", api.Plan{all, project(0, "item", "pos"), project(1, "pos", "item")}, 3},
		{"a Project that is used", api.Plan{all, project(0, "item", "pos"), apply(1, "v", "neg", "pos"), project(0, "item", "pos")}, 4},
		{"a Project that is not", api.Plan{all, project(0, "item", "pos")}, 2},
	} {
		if q := trimmed(t, c.p, nil); len(q) != c.ops {
			t.Errorf("%s: %d ops, want %d: %v", c.name, len(q), c.ops, q)
		}
	}
}
