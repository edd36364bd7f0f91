package trim_test

import (
	"slices"
	"strings"
	"testing"

	"pleacher/api"
	"pleacher/run"
	"pleacher/trim"
)

// P9.1: what Columns refuses is refused with the same error, even of an op that is there twice, or for nothing.
func TestRefused(t *testing.T) {
	long := strings.Repeat("n", api.MaxName+1)
	node := api.Item{Kind: api.IsNode}
	for _, c := range []struct {
		name string
		op   api.Op // behind three, ahead of the last one
		want api.Errno
	}{
		{"no Kind", api.Op{}, api.ErrKind},
		{"no such Kind", api.Op{Kind: api.Sort + 1}, api.ErrKind},
		{"a Kind below all", api.Op{Kind: -1 << 63}, api.ErrKind},
		{"a Table of an op", api.Op{Kind: api.Table, In: at(0)}, api.ErrCount},
		{"a Union of one", api.Op{Kind: api.Union, In: at(0)}, api.ErrCount},
		{"a Sort of none", api.Op{Kind: api.Sort}, api.ErrCount},
		{"of itself", api.Op{Kind: api.Unique, In: at(3)}, api.ErrRange},
		{"of one behind", api.Op{Kind: api.Unique, In: at(4)}, api.ErrRange},
		{"of one below all", api.Op{Kind: api.Unique, In: at(-1)}, api.ErrRange},
		{"of the greatest place", api.Op{Kind: api.Unique, In: at(1<<63 - 1)}, api.ErrRange},
		{"a row too short", table("a b", row(num(1))), api.ErrCols},
		{"no item", table("a", row(api.Item{})), api.ErrValue},
		{"a node", table("a", row(node)), api.ErrValue},
		{"a column twice", table("a a"), api.ErrTwice},
		{"a name too long", table(long), api.ErrName},
		{"too many columns", table("a b c d e f g h i"), api.ErrSize},
		{"no aggregate", group(0, "most"), api.ErrNone},
		{"no function", apply(0, "v", "most", "item"), api.ErrNone},
		{"no axis", api.Op{Kind: api.Walk, In: at(0), Test: anyNode}, api.ErrKind},
		{"no test", api.Op{Kind: api.Walk, In: at(0), Axis: api.Child}, api.ErrKind},
		{"no such node", build(0, 0, api.Comment, "e"), api.ErrKind},
		{"no name for a node", build(0, 0, api.Elem, "1"), api.ErrName},
		{"a column that is not there", choose(0, "a"), api.ErrCols},
		{"too few columns", api.Op{Kind: api.Select, In: at(0)}, api.ErrCols},
		{"a column that is there", apply(0, "pos", "data", "item"), api.ErrTwice},
		{"columns of both", api.Op{Kind: api.Cross, In: at(0, 1)}, api.ErrTwice},
		{"no new name", apply(0, "", "data", "item"), api.ErrName},
	} {
		for what, p := range map[string]api.Plan{
			"once":  append(three(), c.op, last()),
			"twice": append(three(), c.op, c.op, last()),
			"last":  append(three(), c.op),
		} {
			q, e := trim.Trim(p)
			if _, f := run.Columns(p); e != c.want || f != e || len(q) > 0 {
				t.Errorf("%s, %s: %v %d, want %d", c.name, what, q, e, c.want)
			}
		}
	}
	for _, c := range []struct {
		name string
		p    api.Plan
		want api.Errno
	}{
		{"no ops", nil, api.ErrShort},
		{"no ops, but a list", api.Plan{}, api.ErrShort},
		{"a Source", api.Plan{{Kind: api.Source}}, api.ErrCols},
		{"no pos", api.Plan{table("iter item")}, api.ErrCols},
		{"no item", api.Plan{last(), table("iter pos")}, api.ErrCols},
		{"the first one that is wrong", api.Plan{last(), {Kind: api.Sort}, {}}, api.ErrCount},
	} {
		if q, e := trim.Trim(c.p); e != c.want || len(q) > 0 {
			t.Errorf("%s: %v %d, want %d", c.name, q, e, c.want)
		}
	}
}

// chain: a Table, and ops each of which is made of the one ahead.
func chain(first api.Op, ops int) api.Plan {
	p := api.Plan{first}
	for len(p) < ops {
		p = append(p, api.Op{Kind: api.Unique, In: at(len(p) - 1), Cols: names("pos")})
	}
	return p
}

// few: how a plan with many ops is trimmed; it may be evaluated then, and is trimmed once more to as many.
func few(t *testing.T, name string, p api.Plan, want int) api.Plan {
	t.Helper()
	q, e := trim.Trim(p)
	if e != api.OK || len(q) != want {
		t.Fatalf("%s: %d ops, %d, want %d", name, len(q), e, want)
	}
	before, nodes, e := run.Eval(p, nil)
	got, made, f := run.Eval(q, nil)
	if e != api.OK || f != api.OK || !sameRows(answer(got), answer(before)) || !slices.Equal(made, nodes) {
		t.Errorf("%s: %v %d, want %v %d", name, got, f, before, e)
	}
	if again, e := trim.Trim(q); e != api.OK || len(again) != want {
		t.Errorf("%s: once more %d ops, %d", name, len(again), e)
	}
	return q
}

// P9.1 to P9.3, of as many ops as there may be. A Project more would be too many: then columns stay.
func TestMany(t *testing.T) {
	narrow := table("pos item", row(num(1), text("x")))
	wide := table("iter pos item", row(num(1), num(1), text("x")))
	few(t, "all needed", chain(narrow, api.MaxPlan), api.MaxPlan)
	few(t, "one op more", chain(wide, api.MaxPlan-1), api.MaxPlan)
	few(t, "no op more", chain(wide, api.MaxPlan), api.MaxPlan)
	p := chain(wide, api.MaxPlan-1)
	q := few(t, "a Project at the end", append(p, project(len(p)-1, "pos", "iter", "item")), api.MaxPlan)
	if cols, _ := run.Columns(q); !slices.Equal(cols[len(q)-1], names("pos", "item")) {
		t.Errorf("%v", cols[len(q)-1])
	}
	p = chain(wide, api.MaxPlan-1)
	p[1] = wide
	p[2].In = at(0)
	few(t, "one op less", append(p, wide), 2)
	few(t, "all the same", slices.Repeat(api.Plan{narrow}, api.MaxPlan), 1)
	few(t, "all but one for nothing", append(chain(wide, api.MaxPlan-1), narrow), 1)
	few(t, "two chains", append(chain(narrow, api.MaxPlan/2), moved(chain(narrow, api.MaxPlan/2), api.MaxPlan/2)...), api.MaxPlan/2)
	empty := table("iter pos item")
	few(t, "all build", append(append(api.Plan{empty}, slices.Repeat(api.Plan{build(0, 0, api.Elem, "e")}, api.MaxPlan-2)...), narrow), api.MaxPlan)
	if q, e := trim.Trim(chain(narrow, api.MaxPlan+1)); e != api.ErrSize || len(q) > 0 {
		t.Errorf("too many: %d ops, %d", len(q), e)
	}
}

// moved: the same ops, so many places behind.
func moved(p api.Plan, by int) api.Plan {
	for i := range p {
		for j := range p[i].In {
			p[i].In[j] += by
		}
	}
	return p
}

// A great Table is there once, too.
func TestGreatTables(t *testing.T) {
	var rows [][]api.Item
	for i := range 100000 {
		rows = append(rows, row(num(i%7), num(i), text("x")))
	}
	one, other := table("iter pos item", rows...), table("iter pos item", rows...)
	other.Rel.Rows = slices.Concat(rows[:99999], [][]api.Item{row(num(1), num(1), text("y"))})
	p := api.Plan{one, one, other, one, {Kind: api.Union, In: at(0, 1)}, {Kind: api.Union, In: at(2, 3)}, {Kind: api.Union, In: at(4, 5)}}
	q, e := trim.Trim(p)
	if e != api.OK || len(q) != 6 {
		t.Fatalf("%d ops, %d", len(q), e)
	}
	checkTold(t, p, q, nil)
}
