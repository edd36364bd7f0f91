package core_test

import (
	"reflect"
	"strings"
	"testing"

	"pleacher/api"
	"pleacher/core"
	"pleacher/read"
)

const (
	least = -1 << 63
	most  = 1<<63 - 1
)

var (
	longest = strings.Repeat("a", api.MaxName) // a name
	tooLong = longest + "a"
	anyNode = api.Test{Kind: api.AnyNode}
)

func number(n int) api.Item  { return api.Item{Kind: api.IsInt, N: n} }
func text(s string) api.Item { return api.Item{Kind: api.IsText, S: s} }
func named(s string) api.Test {
	return api.Test{Kind: api.NameTest, Name: s}
}

// Expressions of the core.

var (
	document = api.Expr{Kind: api.Root}
	yes      = lit(api.Item{Kind: api.IsBool, N: 1})
	no       = lit(api.Item{Kind: api.IsBool})
	dot      = ref(".")
)

func lit(x api.Item) api.Expr { return api.Expr{Kind: api.Lit, Item: x} }

func num(n int) api.Expr { return lit(number(n)) }

func ref(name string) api.Expr { return api.Expr{Kind: api.Var, Name: name} }

func seq(l ...api.Expr) api.Expr { return api.Expr{Kind: api.Seq, Args: l} }

func let(name string, l ...api.Expr) api.Expr { return api.Expr{Kind: api.Let, Name: name, Args: l} }

func loop(name, at string, l ...api.Expr) api.Expr {
	return api.Expr{Kind: api.For, Name: name, At: at, Args: l}
}

func sorted(name, at string, down int, l ...api.Expr) api.Expr {
	return api.Expr{Kind: api.Sorted, Name: name, At: at, N: down, Args: l}
}

func when(l ...api.Expr) api.Expr { return api.Expr{Kind: api.If, Args: l} }

func call(name string, l ...api.Expr) api.Expr { return api.Expr{Kind: api.Call, Name: name, Args: l} }

func step(axis int, t api.Test, l ...api.Expr) api.Expr {
	return api.Expr{Kind: api.Step, Axis: axis, Test: t, Args: l}
}

func node(kind int, name string, l ...api.Expr) api.Expr {
	return api.Expr{Kind: api.Make, N: kind, Name: name, Args: l}
}

// kept: what a filter with one predicate comes to.
func kept(x, predicate api.Expr) api.Expr {
	body := when(call("holds", predicate, ref(".at")), dot, seq())
	return let(".all", x, let(".last", call("count", ref(".all")), loop(".", ".at", ref(".all"), body)))
}

// Phrases.

func phrase(kind int, l ...api.Phrase) api.Phrase { return api.Phrase{Kind: kind, Args: l} }

var (
	pDot  = phrase(api.Dot)
	pRoot = phrase(api.Root)
	pOne  = pLit(number(1))
)

func pLit(x api.Item) api.Phrase { return api.Phrase{Kind: api.Lit, Item: x} }

func pNum(n int) api.Phrase { return pLit(number(n)) }

func pVar(name string) api.Phrase { return api.Phrase{Kind: api.Var, Name: name} }

func pCall(name string, l ...api.Phrase) api.Phrase {
	return api.Phrase{Kind: api.Call, Name: name, Args: l}
}

func pBinary(name string, l ...api.Phrase) api.Phrase {
	return api.Phrase{Kind: api.Binary, Name: name, Args: l}
}

func pStep(axis int, t api.Test, l ...api.Phrase) api.Phrase {
	return api.Phrase{Kind: api.Step, Axis: axis, Test: t, Args: l}
}

func pNode(kind int, name string, l ...api.Phrase) api.Phrase {
	return api.Phrase{Kind: api.Make, N: kind, Name: name, Args: l}
}

func pQuantified(kind int, name string, l ...api.Phrase) api.Phrase {
	return api.Phrase{Kind: kind, Name: name, Args: l}
}

func flwor(x api.Phrase, l ...api.Clause) api.Phrase {
	return api.Phrase{Kind: api.Flwor, Clauses: l, Args: []api.Phrase{x}}
}

func forIn(name, at string, x api.Phrase) api.Clause {
	return api.Clause{Kind: api.ForIn, Name: name, At: at, Expr: x}
}

func letBe(name string, x api.Phrase) api.Clause {
	return api.Clause{Kind: api.LetBe, Name: name, Expr: x}
}

func where(x api.Phrase) api.Clause { return api.Clause{Kind: api.Where, Expr: x} }

func orderBy(x api.Phrase, down bool) api.Clause {
	return api.Clause{Kind: api.OrderBy, Expr: x, Down: down}
}

// same expressions, in all fields? Lists without elements may be nil or not.
func same(a, b api.Expr) bool {
	if len(a.Args) != len(b.Args) {
		return false
	}
	for i := range a.Args {
		if !same(a.Args[i], b.Args[i]) {
			return false
		}
	}
	a.Args, b.Args = nil, nil
	return reflect.DeepEqual(a, b)
}

type checked struct {
	x    api.Expr
	want api.Errno
}

func checkAll(t *testing.T, l []checked) {
	t.Helper()
	for i, c := range l {
		if e := core.Check(c.x); e != c.want {
			t.Errorf("case %d: Check(%.300v): %d, want %d", i, c.x, e, c.want)
		}
	}
}

type lowered struct {
	p    api.Phrase
	want api.Expr
}

func lowerAll(t *testing.T, l []lowered) {
	t.Helper()
	for i, c := range l {
		if got, e := core.Lower(c.p); !same(got, c.want) || e != api.OK {
			t.Errorf("case %d: Lower(%.300v): %v %d, want %v", i, c.p, got, e, c.want)
		}
		if e := core.Check(c.want); e != api.OK {
			t.Errorf("case %d: Check of what is wanted: %d", i, e)
		}
	}
}

type notLowered struct {
	p    api.Phrase
	want api.Errno
}

func refuse(t *testing.T, l []notLowered) {
	t.Helper()
	for i, c := range l {
		if got, e := core.Lower(c.p); !same(got, api.Expr{}) || e != c.want {
			t.Errorf("case %d: Lower(%.300v): %v %d, want %d", i, c.p, got, e, c.want)
		}
	}
}

// asked: the phrase of a query.
func asked(t *testing.T, s string) api.Phrase {
	t.Helper()
	l, _, e := read.Cut(s)
	if e != api.OK {
		t.Fatalf("Cut(%q): %d", s, e)
	}
	p, _, e := read.Parse(l)
	if e != api.OK {
		t.Fatalf("Parse(%q): %d", s, e)
	}
	return p
}

type meant struct {
	query string
	want  api.Expr
}

func lowerQueries(t *testing.T, l []meant) {
	t.Helper()
	for _, c := range l {
		if got, e := core.Lower(asked(t, c.query)); !same(got, c.want) || e != api.OK {
			t.Errorf("Lower of %s: %v %d, want %v", c.query, got, e, c.want)
		}
	}
}

func mustLower(t *testing.T, p api.Phrase) api.Expr {
	t.Helper()
	x, e := core.Lower(p)
	if e != api.OK {
		t.Errorf("Lower(%.300v): %d", p, e)
	}
	return x
}
