package run_test

import (
	"fmt"
	"slices"
	"strings"
	"testing"

	"pleacher/api"
	"pleacher/run"
)

// P7.3: how many ops there are.
func TestPlanSize(t *testing.T) {
	refused(t, "no ops", nil, api.ErrShort)
	refused(t, "no ops", api.Plan{}, api.ErrShort)
	p := slices.Repeat(api.Plan{last()}, api.MaxPlan+1)
	refused(t, "too many ops", p, api.ErrSize)
	cols, e := run.Columns(p[1:])
	if e != api.OK || len(cols) != api.MaxPlan {
		t.Errorf("as many as may be: %d %d", len(cols), e)
	}
	if r, _, e := run.Eval(p[1:], nil); e != api.OK || !slices.Equal(r.Cols, names("pos", "item")) {
		t.Errorf("as many as may be: %v %d", r, e)
	}
	p[0] = api.Op{Kind: 99}
	refused(t, "too many ops ahead of a wrong one", p, api.ErrSize)
}

// P7.3: Kind and In.
func TestWrongOps(t *testing.T) {
	for _, kind := range []int{0, -1, 16, least, most} {
		refused(t, "no such Kind", api.Plan{{Kind: kind}, last()}, api.ErrKind)
		refused(t, "no such Kind ahead of In", api.Plan{{Kind: kind, In: at(0, 0, 9)}, last()}, api.ErrKind)
	}
	for _, n := range []int{-1, 2, 3, 4, least, most} {
		refused(t, "no op ahead", append(two(), api.Op{Kind: api.Sort, In: at(n)}, last()), api.ErrRange)
		refused(t, "no op ahead, the first one", append(two(), api.Op{Kind: api.Cross, In: at(n, 1)}, last()), api.ErrRange)
		refused(t, "no op ahead, the second one", append(two(), api.Op{Kind: api.Cross, In: at(0, n)}, last()), api.ErrRange)
		refused(t, "too many ahead of what is not there", append(two(), api.Op{Kind: api.Sort, In: at(n, n)}, last()), api.ErrCount)
	}
	refused(t, "an op of itself, the first one of all", api.Plan{{Kind: api.Sort, In: at(0)}}, api.ErrRange)
	for _, op := range []api.Op{
		{Kind: api.Group, Name: "?"}, {Kind: api.Apply, Name: "?"}, {Kind: api.Walk}, {Kind: api.Project, Cols: names("?")},
	} {
		refused(t, "no place ahead of all else", append(two(), op, last()), api.ErrCount)
		op.In = at(2)
		refused(t, "no op ahead, ahead of all else", append(two(), op, last()), api.ErrRange)
	}
	refused(t, "of a Build, too", append(two(), api.Op{Kind: api.Build, In: at(0)}, last()), api.ErrCount)
	refused(t, "of a Build, too", append(two(), api.Op{Kind: api.Build, In: at(0, 2)}, last()), api.ErrRange)
	wrong := table("a a")
	wrong.In = at(0)
	refused(t, "of a Table, too", api.Plan{last(), wrong}, api.ErrCount)
}

// P7.3: what an op names beside columns.
func TestWrongNames(t *testing.T) {
	for _, c := range []struct {
		what string
		op   api.Op
		want api.Errno
	}{
		{"nine columns", table("a b c d e f g h i"), api.ErrSize},
		{"a long name", table("a " + tooLong), api.ErrName},
		{"a name twice", table("a b a"), api.ErrTwice},
		{"a short row", table("a b", row(num(1))), api.ErrCols},
		{"a long row", table("a b", row(num(1), num(1), num(1))), api.ErrCols},
		{"an item that may not be", table("a b", row(num(1), num(api.MaxInt+1))), api.ErrValue},
		{"no item at all", table("a b", row(num(1), api.Item{})), api.ErrValue},
		{"a node", table("a b", row(num(1), node(0))), api.ErrValue},
		{"a node ahead of a short row", table("a b", row(num(1), node(0)), row(num(1))), api.ErrCols},
		{"many rows", table("", make([][]api.Item, api.MaxRows+1)...), api.ErrSize},
		{"no aggregate", api.Op{Kind: api.Group, In: at(0), New: "n", Part: "iter", Cols: names("item")}, api.ErrNone},
		{"no such aggregate", api.Op{Kind: api.Group, In: at(0), New: "n", Part: "iter", Name: "string", Cols: names("item")}, api.ErrNone},
		{"no such aggregate ahead of columns", api.Op{Kind: api.Group, In: at(0), Part: "q", Name: "Sum"}, api.ErrNone},
		{"no function", api.Op{Kind: api.Apply, In: at(0), New: "v", Cols: names("item")}, api.ErrNone},
		{"no such function", api.Op{Kind: api.Apply, In: at(0), New: "v", Name: "count", Cols: names("item")}, api.ErrNone},
		{"no such function ahead of columns", api.Op{Kind: api.Apply, In: at(0), Name: "ddo", Cols: names("q")}, api.ErrNone},
		{"the axis 0", api.Op{Kind: api.Walk, In: at(0), Test: anyNode}, api.ErrKind},
		{"the axis 13", api.Op{Kind: api.Walk, In: at(0), Axis: 13, Test: anyNode}, api.ErrKind},
		{"the axis 13 ahead of columns", api.Op{Kind: api.Walk, In: at(1), Axis: 13, Test: anyNode}, api.ErrKind},
		{"the test 0", api.Op{Kind: api.Walk, In: at(0), Axis: 1}, api.ErrKind},
		{"the test 6 ahead of columns", api.Op{Kind: api.Walk, In: at(1), Axis: 12, Test: api.Test{Kind: 6}}, api.ErrKind},
		{"no Kind of node", api.Op{Kind: api.Build, In: at(0, 0), Name: "e"}, api.ErrKind},
		{"a Comment", api.Op{Kind: api.Build, In: at(0, 0), N: api.Comment, Name: "e"}, api.ErrKind},
		{"a Doc ahead of its name", api.Op{Kind: api.Build, In: at(0, 0), N: api.Doc, Name: "1"}, api.ErrKind},
		{"an Elem without a name", api.Op{Kind: api.Build, In: at(0, 0), N: api.Elem}, api.ErrSize},
		{"an Attr with a long name", api.Op{Kind: api.Build, In: at(0, 0), N: api.Attr, Name: tooLong}, api.ErrSize},
		{"an Elem's name", api.Op{Kind: api.Build, In: at(0, 0), N: api.Elem, Name: "1"}, api.ErrName},
		{"an Attr's name ahead of columns", api.Op{Kind: api.Build, In: at(1, 1), N: api.Attr, Name: "a b"}, api.ErrName},
	} {
		refused(t, c.what, append(two(), c.op, last()), c.want)
	}
}

// P7.3: columns that are not there, or not as many as must be; ahead of what rel's Check refuses of the op's columns.
func TestWrongColumns(t *testing.T) {
	p := append(two(), table("iter pos"), table("pos item"), table("iter item"), table("pos iter item"))
	for _, op := range []api.Op{
		{Kind: api.Project, In: at(0), Cols: names("x"), Olds: names("q")},
		{Kind: api.Project, In: at(0), Cols: names("iter", "pos"), Olds: names("pos")},
		{Kind: api.Project, In: at(0), Cols: names("pos"), Olds: names("pos", "item")},
		{Kind: api.Project, In: at(0), Cols: names("pos")},
		{Kind: api.Project, In: at(0), Cols: names("", "x", "x"), Olds: names("pos", "q", "pos")},
		{Kind: api.Project, In: at(0), Cols: names("", ""), Olds: names("pos")},
		{Kind: api.Select, In: at(0), Cols: names("a")},
		{Kind: api.Select, In: at(0)},
		{Kind: api.Select, In: at(0), Cols: names("")},
		{Kind: api.Select, In: at(0), Cols: names("pos", "pos")},
		{Kind: api.Join, In: at(0, 1), Cols: names("a", "iter")},
		{Kind: api.Join, In: at(0, 1), Cols: names("iter", "iter")},
		{Kind: api.Join, In: at(0, 1), Cols: names("a", "a")},
		{Kind: api.Join, In: at(0, 1), Cols: names("iter")},
		{Kind: api.Join, In: at(0, 1), Cols: names("iter", "a", "a")},
		{Kind: api.Join, In: at(0, 1)},
		{Kind: api.Join, In: at(0, 0), Cols: names("iter", "q")},
		{Kind: api.Union, In: at(0, 1)},
		{Kind: api.Union, In: at(0, 2)},
		{Kind: api.Union, In: at(2, 0)},
		{Kind: api.Union, In: at(0, 5)},
		{Kind: api.Except, In: at(0, 2), Cols: names("item")},
		{Kind: api.Except, In: at(2, 0), Cols: names("item")},
		{Kind: api.Except, In: at(0, 0), Cols: names("iter", "q")},
		{Kind: api.Unique, In: at(0), Cols: names("iter", "")},
		{Kind: api.Rank, In: at(0), New: "n", Cols: names("n")},
		{Kind: api.Rank, In: at(0), New: "n", Part: "n"},
		{Kind: api.Rank, In: at(0), New: "pos", Part: "q"},
		{Kind: api.Rank, In: at(0), New: "", Cols: names("q")},
		{Kind: api.Group, In: at(0), New: "n", Name: "sum", Part: "q", Cols: names("pos")},
		{Kind: api.Group, In: at(0), New: "n", Name: "sum", Part: "iter", Cols: names("q")},
		{Kind: api.Group, In: at(0), New: "n", Name: "sum", Part: "iter"},
		{Kind: api.Group, In: at(0), New: "n", Name: "sum", Part: "", Cols: names("pos")},
		{Kind: api.Group, In: at(0), New: "n", Name: "count", Part: "iter", Cols: names("pos", "pos")},
		{Kind: api.Group, In: at(0), New: "iter", Name: "count", Part: "iter", Cols: names("q")},
		{Kind: api.Apply, In: at(0), New: "v", Name: "data", Cols: names("q")},
		{Kind: api.Apply, In: at(0), New: "v", Name: "data", Cols: names("v")},
		{Kind: api.Apply, In: at(0), New: "v", Name: "data"},
		{Kind: api.Apply, In: at(0), New: "v", Name: "data", Cols: names("pos", "pos")},
		{Kind: api.Apply, In: at(0), New: "v", Name: "+", Cols: names("pos", "q")},
		{Kind: api.Apply, In: at(0), New: "v", Name: "+", Cols: names("pos")},
		{Kind: api.Apply, In: at(0), New: "pos", Name: "holds", Cols: names("pos", "iter")},
		{Kind: api.Apply, In: at(0), New: "", Name: "data", Cols: names("")},
		{Kind: api.Walk, In: at(1), Axis: api.Self, Test: anyNode},
		{Kind: api.Walk, In: at(2), Axis: api.Self, Test: anyNode},
		{Kind: api.Walk, In: at(3), Axis: api.Self, Test: anyNode},
		{Kind: api.Build, In: at(1, 0), N: api.Elem, Name: "e"},
		{Kind: api.Build, In: at(3, 0), N: api.Attr, Name: "e"},
		{Kind: api.Build, In: at(0, 1), N: api.Elem, Name: "e"},
		{Kind: api.Build, In: at(0, 2), N: api.Elem, Name: "e"},
		{Kind: api.Build, In: at(0, 3), N: api.Elem, Name: "e"},
		{Kind: api.Build, In: at(0, 4), N: api.Text},
		{Kind: api.Sort, In: at(0), Cols: names("iter", "q")},
	} {
		refused(t, fmt.Sprint("columns of Kind ", op.Kind), append(slices.Clone(p), op, last()), api.ErrCols)
	}
}

// P7.3: what rel's Check refuses of the columns of an op; it comes behind ErrCols.
func TestWrongMade(t *testing.T) {
	p := append(two(), table("d e f g h"), table("d e f g h i"))
	for _, c := range []struct {
		op   api.Op
		want api.Errno
	}{
		{api.Op{Kind: api.Project, In: at(0), Cols: names("x", "x"), Olds: names("pos", "item")}, api.ErrTwice},
		{api.Op{Kind: api.Project, In: at(0), Cols: names("x", ""), Olds: names("pos", "item")}, api.ErrName},
		{api.Op{Kind: api.Project, In: at(0), Cols: names("x", "x", ""), Olds: names("pos", "pos", "pos")}, api.ErrTwice},
		{api.Op{Kind: api.Project, In: at(0), Cols: slices.Repeat(names(""), 9), Olds: slices.Repeat(names("pos"), 9)}, api.ErrSize},
		{api.Op{Kind: api.Join, In: at(0, 0), Cols: names("iter", "iter")}, api.ErrTwice},
		{api.Op{Kind: api.Join, In: at(0, 3), Cols: names("iter", "d")}, api.ErrSize},
		{api.Op{Kind: api.Cross, In: at(1, 1)}, api.ErrTwice},
		{api.Op{Kind: api.Cross, In: at(0, 3)}, api.ErrSize},
		{api.Op{Kind: api.Rank, In: at(0), New: "pos"}, api.ErrTwice},
		{api.Op{Kind: api.Rank, In: at(0)}, api.ErrName},
		{api.Op{Kind: api.Rank, In: at(0), New: tooLong, Part: "iter"}, api.ErrName},
		{api.Op{Kind: api.Group, In: at(0), New: "iter", Name: "count", Part: "iter", Cols: names("iter")}, api.ErrTwice},
		{api.Op{Kind: api.Group, In: at(0), Name: "count", Part: "iter", Cols: names("iter")}, api.ErrName},
		{api.Op{Kind: api.Apply, In: at(0), New: "iter", Name: "data", Cols: names("iter")}, api.ErrTwice},
		{api.Op{Kind: api.Apply, In: at(0), Name: "data", Cols: names("iter")}, api.ErrName},
		{api.Op{Kind: api.Apply, In: at(0), New: tooLong, Name: "+", Cols: names("iter", "pos")}, api.ErrName},
	} {
		refused(t, "what is made", append(slices.Clone(p), c.op, last()), c.want)
	}
	eight := append(slices.Clone(p), api.Op{Kind: api.Cross, In: at(0, 2)})
	if got := columns(t, eight); len(got) != api.MaxCols {
		t.Errorf("as many as may be: %v", got)
	}
	refused(t, "a column more, by Rank", append(slices.Clone(eight), api.Op{Kind: api.Rank, In: at(4), New: "n"}, last()), api.ErrSize)
	refused(t, "a column more, by Apply", append(eight, api.Op{Kind: api.Apply, In: at(4), New: "n", Name: "data", Cols: names("d")}, last()), api.ErrSize)
}

// P7.3: the last op has pos and item; the first op that is wrong tells, and that comes at last.
func TestLastColumns(t *testing.T) {
	for _, cols := range []string{"", "pos", "item", "iter item", "pos Item", "iter pos n"} {
		refused(t, "columns "+cols, api.Plan{table(cols)}, api.ErrCols)
		refused(t, "columns "+cols, api.Plan{last(), table(cols)}, api.ErrCols)
	}
	refused(t, "a Source", source(0)[:1], api.ErrCols)
	for _, cols := range []string{"pos item", "item pos", "iter pos item", "a item b pos c"} {
		got, e := run.Columns(api.Plan{table(cols)})
		if e != api.OK || len(got) != 1 || strings.Join(got[0], " ") != cols {
			t.Errorf("columns %s: %v %d", cols, got, e)
		}
	}
	refused(t, "the first op", api.Plan{table("a a"), {Kind: 99}}, api.ErrTwice)
	refused(t, "the first op", api.Plan{{Kind: 99}, table("a a")}, api.ErrKind)
	refused(t, "the first op", append(two(), api.Op{Kind: api.Sort, In: at(0), Cols: names("q")}, api.Op{Kind: api.Sort, In: at(9)}), api.ErrCols)
	refused(t, "an op ahead of the last columns", append(two(), api.Op{Kind: api.Apply, In: at(0)}, table("a")), api.ErrNone)
}
