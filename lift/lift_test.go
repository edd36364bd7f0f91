package lift_test

import (
	"fmt"
	"slices"
	"strings"
	"testing"

	"pleacher/api"
	"pleacher/core"
	"pleacher/lift"
	"pleacher/read"
	"pleacher/run"
	"pleacher/store"
	"pleacher/xml"
)

func num(n int) api.Item { return api.Item{Kind: api.IsInt, N: n} }

func text(s string) api.Item { return api.Item{Kind: api.IsText, S: s} }

func node(n int) api.Item { return api.Item{Kind: api.IsNode, N: n} }

func truth(is bool) api.Item {
	if is {
		return api.Item{Kind: api.IsBool, N: 1}
	}
	return api.Item{Kind: api.IsBool}
}

// Expressions of the core.

func lit(x api.Item) api.Expr { return api.Expr{Kind: api.Lit, Item: x} }

func n(n int) api.Expr { return lit(num(n)) }

func s(s string) api.Expr { return lit(text(s)) }

func v(name string) api.Expr { return api.Expr{Kind: api.Var, Name: name} }

func root() api.Expr { return api.Expr{Kind: api.Root} }

func seq(l ...api.Expr) api.Expr { return api.Expr{Kind: api.Seq, Args: l} }

func let(name string, l ...api.Expr) api.Expr { return api.Expr{Kind: api.Let, Name: name, Args: l} }

func loop(name, at string, l ...api.Expr) api.Expr {
	return api.Expr{Kind: api.For, Name: name, At: at, Args: l}
}

func sorted(name, at string, down int, l ...api.Expr) api.Expr {
	return api.Expr{Kind: api.Sorted, Name: name, At: at, N: down, Args: l}
}

func cond(l ...api.Expr) api.Expr { return api.Expr{Kind: api.If, Args: l} }

func call(name string, l ...api.Expr) api.Expr {
	return api.Expr{Kind: api.Call, Name: name, Args: l}
}

func step(axis, kind int, name string, l ...api.Expr) api.Expr {
	return api.Expr{Kind: api.Step, Axis: axis, Test: api.Test{Kind: kind, Name: name}, Args: l}
}

func made(kind int, name string, l ...api.Expr) api.Expr {
	return api.Expr{Kind: api.Make, N: kind, Name: name, Args: l}
}

// shred a document.
func shred(t *testing.T, doc string) []api.Node {
	t.Helper()
	events, e := xml.Parse(doc)
	if e != api.OK {
		t.Fatalf("%s: %d", doc, e)
	}
	l, e := store.Shred(events)
	if e != api.OK {
		t.Fatalf("%s: %d", doc, e)
	}
	return l
}

// lower a query.
func lower(t *testing.T, query string) api.Expr {
	t.Helper()
	tokens, _, e := read.Cut(query)
	if e != api.OK {
		t.Fatalf("%s: %d", query, e)
	}
	p, _, e := read.Parse(tokens)
	if e != api.OK {
		t.Fatalf("%s: %d", query, e)
	}
	x, e := core.Lower(p)
	if e != api.OK {
		t.Fatalf("%s: %d", query, e)
	}
	return x
}

// told by the plan of an expression: its items, sorted by their places, no two of which are the same, and the nodes.
func told(t *testing.T, x api.Expr, l []api.Node) (list, []api.Node, api.Errno) {
	t.Helper()
	p, e := lift.Lift(x)
	if e != api.OK {
		t.Fatalf("%v is refused: %d", x, e)
	}
	r, after, e := run.Eval(p, l)
	if e != api.OK {
		if len(r.Rows)+len(after) > 0 {
			t.Fatalf("with the error %d: %v %v", e, r, after)
		}
		return nil, nil, e
	}
	pos, item := slices.Index(r.Cols, "pos"), slices.Index(r.Cols, "item")
	if pos < 0 || item < 0 {
		t.Fatalf("%v tells the columns %v", x, r.Cols)
	}
	var items list
	for i, row := range r.Rows {
		if row[pos].Kind != api.IsInt || i > 0 && row[pos].N <= r.Rows[i-1][pos].N {
			t.Fatalf("%v tells the places %v", x, r)
		}
		items = append(items, row[item])
	}
	return items, after, api.OK
}

// shown: items as a text, with blanks between: a node by its place, a text in quotes; or, behind a !, an error.
func shown(items list, e api.Errno) string {
	if e != api.OK {
		return fmt.Sprintf("!%d", e)
	}
	var all []string
	for _, x := range items {
		switch x.Kind {
		case api.IsNode:
			all = append(all, fmt.Sprintf("#%d", x.N))
		case api.IsInt:
			all = append(all, fmt.Sprint(x.N))
		case api.IsText:
			all = append(all, fmt.Sprintf("%q", x.S))
		default:
			all = append(all, fmt.Sprint(x.N == 1))
		}
	}
	return strings.Join(all, " ")
}

// means: queries, and what they mean over a document. The model must say so, too.
func means(t *testing.T, doc string, pairs ...string) {
	t.Helper()
	for c := range slices.Chunk(pairs, 2) {
		exprMeans(t, doc, c[0], lower(t, c[0]), c[1])
	}
}

func exprMeans(t *testing.T, doc, name string, x api.Expr, want string) {
	t.Helper()
	l := shred(t, doc)
	items, after, e := told(t, x, l)
	if got := shown(items, e); got != want {
		t.Errorf("%s: %s, want %s", name, got, want)
	}
	modelled, nodes, _, e := meant(x, l)
	if got := shown(modelled, e); got != want || !slices.Equal(nodes, after) {
		t.Errorf("%s: the model says %s %v; want %s %v", name, got, nodes, want, after)
	}
}
