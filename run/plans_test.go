package run_test

import (
	"slices"
	"strings"
	"testing"

	"pleacher/api"
	"pleacher/run"
	"pleacher/store"
	"pleacher/xml"
)

const (
	least = -1 << 63
	most  = 1<<63 - 1
)

var (
	yes     = api.Item{Kind: api.IsBool, N: 1}
	no      = api.Item{Kind: api.IsBool}
	anyNode = api.Test{Kind: api.AnyNode}
	tooLong = strings.Repeat("n", api.MaxName+1)
)

func num(n int) api.Item { return api.Item{Kind: api.IsInt, N: n} }

func text(s string) api.Item { return api.Item{Kind: api.IsText, S: s} }

func node(n int) api.Item { return api.Item{Kind: api.IsNode, N: n} }

func row(l ...api.Item) []api.Item { return l }

func names(l ...string) []string { return l }

func at(l ...int) []int { return l }

// table with columns, told as one text, and rows.
func table(cols string, rows ...[]api.Item) api.Op {
	return api.Op{Kind: api.Table, Rel: api.Rel{Cols: strings.Fields(cols), Rows: rows}}
}

// last: an op with which a plan may end; what it is made of is not asked.
func last() api.Op { return table("pos item") }

// source: the node 0, with a pos, in two ops from a place on.
func source(place int) api.Plan {
	return api.Plan{{Kind: api.Source}, {Kind: api.Rank, In: at(place), New: "pos"}}
}

func shred(t *testing.T, s string) []api.Node {
	t.Helper()
	events, e := xml.Parse(s)
	if e != api.OK {
		t.Fatalf("Parse(%q): %d", s, e)
	}
	l, e := store.Shred(events)
	if e != api.OK {
		t.Fatalf("Shred(%q): %d", s, e)
	}
	return l
}

func sameRows(a, b [][]api.Item) bool { return slices.EqualFunc(a, b, slices.Equal) }

func sameRel(a, b api.Rel) bool { return slices.Equal(a.Cols, b.Cols) && sameRows(a.Rows, b.Rows) }

// refused by both calls, with nothing beside the error.
func refused(t *testing.T, what string, p api.Plan, want api.Errno) {
	t.Helper()
	if cols, e := run.Columns(p); len(cols) > 0 || e != want {
		t.Errorf("%s: Columns: %v %d, want %d", what, cols, e, want)
	}
	refusedEval(t, what, p, nil, want)
}

func refusedEval(t *testing.T, what string, p api.Plan, l []api.Node, want api.Errno) {
	t.Helper()
	if r, made, e := run.Eval(p, l); len(r.Cols) > 0 || len(r.Rows) > 0 || len(made) > 0 || e != want {
		t.Errorf("%s: Eval: %v %v %d, want %d", what, r, made, e, want)
	}
}

// columns of the last op of a plan, which a Table stands behind, so that it may be any.
func columns(t *testing.T, p api.Plan) []string {
	t.Helper()
	cols, e := run.Columns(append(slices.Clone(p), last()))
	if e != api.OK || len(cols) != len(p)+1 {
		t.Fatalf("%v: %v %d", p, cols, e)
	}
	return cols[len(p)-1]
}

// two: relations with and without the columns that ops ask for.
func two() api.Plan {
	return api.Plan{
		table("iter pos item", row(num(1), num(1), text("x"))),
		table("a b c", row(yes, num(2), num(1))),
	}
}

// ofAllKinds: of each Kind an op over two that may be.
func ofAllKinds() []api.Op {
	return []api.Op{
		table("pos item"),
		{Kind: api.Project, In: at(0), Cols: names("x"), Olds: names("pos")},
		{Kind: api.Select, In: at(1), Cols: names("a")},
		{Kind: api.Join, In: at(0, 1), Cols: names("iter", "c")},
		{Kind: api.Cross, In: at(0, 1)},
		{Kind: api.Union, In: at(0, 0)},
		{Kind: api.Except, In: at(0, 0), Cols: names("iter")},
		{Kind: api.Unique, In: at(0), Cols: names("iter")},
		{Kind: api.Rank, In: at(0), New: "n", Cols: names("item"), Part: "iter"},
		{Kind: api.Group, In: at(0), New: "n", Part: "iter", Name: "count", Cols: names("item")},
		{Kind: api.Apply, In: at(0), New: "v", Name: "string", Cols: names("item")},
		{Kind: api.Walk, In: at(0), Axis: api.Child, Test: anyNode},
		{Kind: api.Build, In: at(0, 0), N: api.Elem, Name: "e"},
		{Kind: api.Source},
		{Kind: api.Sort, In: at(0), Cols: names("item")},
	}
}

// P7.1: each Kind has its number of places in In, and no other one.
func TestInputs(t *testing.T) {
	wanted := map[int]int{api.Table: 0, api.Source: 0, api.Join: 2, api.Cross: 2, api.Union: 2, api.Except: 2, api.Build: 2}
	for _, op := range ofAllKinds() {
		want, there := wanted[op.Kind]
		if !there {
			want = 1
		}
		if len(op.In) != want {
			t.Fatalf("Kind %d: %v", op.Kind, op.In)
		}
		columns(t, append(two(), op))
		for n := range 4 {
			if n != want {
				op.In = make([]int, n)
				refused(t, "another number of places", append(two(), op, last()), api.ErrCount)
			}
		}
	}
}

// P7.1: what an op has beside what its Kind has does not count, whatever it is.
func TestBeside(t *testing.T) {
	wrong := api.Rel{Cols: names("", tooLong, ""), Rows: [][]api.Item{{}, {node(-1)}}}
	for _, op := range ofAllKinds() {
		with := op
		if op.Kind != api.Table {
			with.Rel = wrong
		}
		if op.Kind != api.Walk {
			with.Axis, with.Test = 99, api.Test{Kind: 99, Name: "?"}
		}
		if op.Kind != api.Build {
			with.N = least
		}
		if op.Kind != api.Group && op.Kind != api.Apply && op.Kind != api.Build {
			with.Name = "there is no such thing"
		}
		if op.Kind != api.Group && op.Kind != api.Rank {
			with.Part = "nowhere"
		}
		if op.Kind != api.Project {
			with.Olds = names("nowhere", "")
		}
		switch op.Kind {
		case api.Table, api.Cross, api.Union, api.Walk, api.Build, api.Source:
			with.Cols = names("nowhere", "")
		}
		switch op.Kind {
		case api.Rank, api.Group, api.Apply:
		default:
			with.New = tooLong
		}
		if got, want := columns(t, append(two(), with)), columns(t, append(two(), op)); !slices.Equal(got, want) {
			t.Errorf("Kind %d: %v, want %v", op.Kind, got, want)
		}
	}
	bare, full := api.Op{Kind: api.Build, In: at(0, 0), N: api.Text}, api.Op{Kind: api.Build, In: at(0, 0), N: api.Text, Name: "1 ?"}
	rank := api.Op{Kind: api.Rank, In: at(2), New: "pos"}
	_, want, e := run.Eval(append(two(), bare, rank), nil)
	if _, got, f := run.Eval(append(two(), full, rank), nil); e != api.OK || f != api.OK || !slices.Equal(got, want) {
		t.Errorf("the Name of a Text: %v %d, want %v %d", got, f, want, e)
	}
}

// P7.2
func TestColumns(t *testing.T) {
	for i, want := range []string{
		"pos item", "x", "a b c", "iter pos item a b c", "iter pos item a b c", "iter pos item", "iter pos item", "iter pos item",
		"iter pos item n", "iter n", "iter pos item v", "iter item", "iter item", "item", "iter pos item",
	} {
		if got := strings.Join(columns(t, append(two(), ofAllKinds()[i])), " "); got != want {
			t.Errorf("Kind %d: %s, want %s", i+1, got, want)
		}
	}
	first := append(two(), table("iter", row(num(1))))
	for _, c := range []struct {
		op   api.Op
		want string
	}{
		{table(""), ""},
		{api.Op{Kind: api.Project, In: at(0), Cols: names("x", "item", "y"), Olds: names("item", "pos", "item")}, "x item y"},
		{api.Op{Kind: api.Project, In: at(0)}, ""},
		{api.Op{Kind: api.Select, In: at(0), Cols: names("pos")}, "iter pos item"},
		{api.Op{Kind: api.Cross, In: at(1, 2)}, "a b c iter"},
		{api.Op{Kind: api.Except, In: at(2, 0), Cols: names("iter")}, "iter"},
		{api.Op{Kind: api.Except, In: at(0, 1)}, "iter pos item"},
		{api.Op{Kind: api.Unique, In: at(0)}, "iter pos item"},
		{api.Op{Kind: api.Rank, In: at(1), New: "pos"}, "a b c pos"},
		{api.Op{Kind: api.Group, In: at(1), New: "iter", Part: "c", Name: "max", Cols: names("c")}, "c iter"},
		{api.Op{Kind: api.Apply, In: at(1), New: "d", Name: "substring", Cols: names("a", "b", "a")}, "a b c d"},
		{api.Op{Kind: api.Build, In: at(2, 0), N: api.Text}, "iter item"},
		{api.Op{Kind: api.Sort, In: at(1), Cols: names("b", "b", "a", "b", "b", "b", "b", "b", "b")}, "a b c"},
	} {
		if got := strings.Join(columns(t, append(slices.Clone(first), c.op)), " "); got != c.want {
			t.Errorf("%v: %s, want %s", c.op, got, c.want)
		}
	}
}

// P7.2, P7.3: the columns of all ops, in their order.
func TestColumnsOfAll(t *testing.T) {
	p := append(two(), ofAllKinds()...)
	p = append(p, table("x item pos"))
	cols, e := run.Columns(p)
	if e != api.OK || len(cols) != len(p) {
		t.Fatalf("%v %d", cols, e)
	}
	for i := range p {
		if want := columns(t, p[:i+1]); !slices.Equal(cols[i], want) {
			t.Errorf("op %d: %v, want %v", i, cols[i], want)
		}
	}
}
