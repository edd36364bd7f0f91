package trim_test

import (
	"slices"
	"strings"
	"testing"

	"pleacher/api"
	"pleacher/store"
	"pleacher/xml"
)

var (
	yes     = api.Item{Kind: api.IsBool, N: 1}
	no      = api.Item{Kind: api.IsBool}
	anyNode = api.Test{Kind: api.AnyNode}
)

func num(n int) api.Item { return api.Item{Kind: api.IsInt, N: n} }

func text(s string) api.Item { return api.Item{Kind: api.IsText, S: s} }

func row(l ...api.Item) []api.Item { return l }

func names(l ...string) []string { return l }

func at(l ...int) []int { return l }

// table with columns, told as one text, and rows.
func table(cols string, rows ...[]api.Item) api.Op {
	return api.Op{Kind: api.Table, Rel: api.Rel{Cols: strings.Fields(cols), Rows: rows}}
}

// last: an op with which a plan may end; what it is made of is not asked.
func last() api.Op { return table("pos item", row(num(1), text("end"))) }

// project columns, each with its own name.
func project(in int, cols ...string) api.Op {
	return api.Op{Kind: api.Project, In: at(in), Cols: cols, Olds: slices.Clone(cols)}
}

func choose(in int, col string) api.Op {
	return api.Op{Kind: api.Select, In: at(in), Cols: names(col)}
}

func apply(in int, name, function string, cols ...string) api.Op {
	return api.Op{Kind: api.Apply, In: at(in), New: name, Name: function, Cols: cols}
}

func build(loop, content, kind int, name string) api.Op {
	return api.Op{Kind: api.Build, In: at(loop, content), N: kind, Name: name}
}

func group(in int, aggregate string) api.Op {
	return api.Op{Kind: api.Group, In: at(in), New: "n", Part: "iter", Name: aggregate, Cols: names("item")}
}

// three: relations with which ops of all Kinds may be.
func three() api.Plan {
	return api.Plan{
		table("iter pos item", row(num(1), num(2), text("x")), row(num(1), num(1), num(7)), row(num(2), num(1), text("y"))),
		table("iter pos item", row(num(2), num(1), text("z"))),
		table("a b c", row(yes, num(2), num(1)), row(no, num(3), num(2))),
	}
}

// ofAllKinds: of each Kind an op over three that may be.
func ofAllKinds() []api.Op {
	return []api.Op{
		table("a", row(num(1))),
		{Kind: api.Project, In: at(0), Cols: names("x"), Olds: names("pos")},
		choose(2, "a"),
		{Kind: api.Join, In: at(0, 2), Cols: names("iter", "c")},
		{Kind: api.Cross, In: at(0, 2)},
		{Kind: api.Union, In: at(0, 1)},
		{Kind: api.Except, In: at(0, 1), Cols: names("iter")},
		{Kind: api.Unique, In: at(0), Cols: names("iter")},
		{Kind: api.Rank, In: at(0), New: "n", Cols: names("item"), Part: "iter"},
		group(0, "count"),
		apply(0, "v", "string", "item"),
		{Kind: api.Walk, In: at(0), Axis: api.Child, Test: anyNode},
		build(0, 0, api.Elem, "e"),
		{Kind: api.Source},
		{Kind: api.Sort, In: at(0), Cols: names("item")},
	}
}

// junk beside what an op's Kind has.
func junk(op api.Op) api.Op {
	full := api.Op{Kind: op.Kind, In: op.In, New: "junk", Cols: names("junk", ""), Olds: names("junk"), Part: "junk", Name: "junk", N: 77, Axis: 77,
		Test: api.Test{Kind: 77, Name: "junk"}, Rel: api.Rel{Cols: names("junk"), Rows: [][]api.Item{{}}}}
	switch op.Kind {
	case api.Table:
		full.Rel = op.Rel
	case api.Project:
		full.Cols, full.Olds = op.Cols, op.Olds
	case api.Select, api.Join, api.Except, api.Unique, api.Sort:
		full.Cols = op.Cols
	case api.Rank:
		full.New, full.Cols, full.Part = op.New, op.Cols, op.Part
	case api.Group:
		full.New, full.Cols, full.Part, full.Name = op.New, op.Cols, op.Part, op.Name
	case api.Apply:
		full.New, full.Cols, full.Name = op.New, op.Cols, op.Name
	case api.Walk:
		full.Axis, full.Test = op.Axis, op.Test
		if op.Test.Kind != api.NameTest {
			full.Test.Name = "junk"
		}
	case api.Build:
		full.N, full.Name = op.N, op.Name
		if op.N == api.Text {
			full.Name = "<"
		}
	}
	return full
}

func shred(t *testing.T, s string) []api.Node {
	t.Helper()
	events, e := xml.Parse(s)
	if e != api.OK {
		t.Fatalf("Parse(%q): %d", s, e)
	}
	l, e := store.Shred(events)
	if e != api.OK {
		t.Fatalf("Shred(%q): %d", s, e)
	}
	return l
}

// overs: nodes of all sorts over which plans are evaluated: none; such that may not be; documents; an attribute alone.
func overs(t *testing.T) [][]api.Node {
	t.Helper()
	return [][]api.Node{
		nil,
		{{Kind: api.Elem}},
		shred(t, `<r/>`),
		shred(t, `<r k="1"><a b="x">2</a>é<b/><!--c--></r>`),
		append(shred(t, `<a>1<a k="">1</a></a>`), api.Node{Kind: api.Attr, Name: "k", Value: "3", Parent: -1}, api.Node{Kind: api.Elem, Name: "a", Parent: -1}),
		{{Kind: api.Attr, Name: "k", Value: "1", Parent: -1}},
	}
}
