package lift_test

import (
	"slices"
	"strings"
	"testing"

	"pleacher/api"
	"pleacher/core"
	"pleacher/lift"
)

// P8.1: what core's Check refuses is refused with the same error, and nothing else is.
func TestRefused(t *testing.T) {
	long := strings.Repeat("x", api.MaxName+1)
	for _, c := range []struct {
		name string
		x    api.Expr
		want api.Errno
	}{
		{"nothing", api.Expr{}, api.ErrKind},
		{"a phrase", api.Expr{Kind: api.Dot}, api.ErrKind},
		{"an argument too many", api.Expr{Kind: api.Lit, Item: num(1), Args: []api.Expr{n(1)}}, api.ErrCount},
		{"an argument too few", let("x", n(1)), api.ErrCount},
		{"a loop with three", loop("x", "", n(1), n(1), n(1)), api.ErrCount},
		{"a Sorted with two", sorted("x", "", 0, n(1), n(1)), api.ErrCount},
		{"an If with two", cond(n(1), n(1)), api.ErrCount},
		{"a node as a Lit", lit(node(0)), api.ErrValue},
		{"too great a number", n(api.MaxInt + 1), api.ErrValue},
		{"no text", s("\xff"), api.ErrValue},
		{"a variable that is not there", v("x"), api.ErrNone},
		{"a variable behind its scope", seq(let("x", n(1), v("x")), v("x")), api.ErrNone},
		{"a variable in its own value", let("x", v("x"), n(1)), api.ErrNone},
		{"the At of a Let", api.Expr{Kind: api.Let, Name: "x", At: "y", Args: []api.Expr{n(1), v("y")}}, api.ErrNone},
		{"no name", let("", n(1), n(1)), api.ErrName},
		{"too long a name", loop(long, "", n(1), n(1)), api.ErrName},
		{"too long an At", sorted("x", long, 0, n(1), n(1), n(1)), api.ErrName},
		{"one name twice", loop("x", "x", n(1), n(1)), api.ErrTwice},
		{"no such function", call("f", n(1)), api.ErrNone},
		{"a function of plans alone", call("ebv", n(1), n(1)), api.ErrNone},
		{"a function without arguments", call("count"), api.ErrCount},
		{"a function with too many", call("+", n(1), n(1), n(1)), api.ErrCount},
		{"no such axis", step(13, api.AnyNode, "", root()), api.ErrKind},
		{"no such test", step(api.Child, 0, "", root()), api.ErrKind},
		{"no such node", made(api.Comment, "e", n(1)), api.ErrKind},
		{"a node's name", made(api.Elem, "1", n(1)), api.ErrName},
		{"a node without a name", made(api.Attr, "", n(1)), api.ErrSize},
		{"an outer one ahead", call("f", api.Expr{}), api.ErrNone},
		{"from left to right", seq(v("x"), api.Expr{}), api.ErrNone},
		{"too many loops", seq(slices.Repeat([]api.Expr{loop("x", "", n(1), n(1))}, api.MaxLoops+1)...), api.ErrSize},
		{"too many nodes", seq(slices.Repeat([]api.Expr{made(api.Text, "", n(1))}, api.MaxMakes+1)...), api.ErrSize},
		{"too many parts", seq(slices.Repeat([]api.Expr{n(1)}, api.MaxParts)...), api.ErrSize},
		{"too many parts, and a wrong one", seq(append(slices.Repeat([]api.Expr{n(1)}, api.MaxParts), v("x"))...), api.ErrNone},
	} {
		p, e := lift.Lift(c.x)
		if e != c.want || core.Check(c.x) != c.want || len(p) > 0 {
			t.Errorf("%s: %d ops, %d, want %d", c.name, len(p), e, c.want)
		}
	}
}

// P8.1: parts within one another, as many as a program may be given, are refused; no call panics.
func TestDeep(t *testing.T) {
	x := n(1)
	for range 60000 {
		x = call("neg", x)
	}
	if p, e := lift.Lift(x); e != api.ErrSize || len(p) > 0 {
		t.Errorf("%d ops, %d", len(p), e)
	}
}

// P8.1: as much as may be: all parts within one another, or side by side.
func TestGreat(t *testing.T) {
	l := shred(t, abc)
	deep := n(1)
	for range api.MaxParts - 1 {
		deep = call("neg", deep)
	}
	wide := seq(slices.Repeat([]api.Expr{n(1), seq(), seq()}, (api.MaxParts-1)/3)...)
	lets := v("x")
	for range (api.MaxParts - 1) / 2 {
		lets = let("x", n(1), lets)
	}
	for _, x := range []api.Expr{deep, wide, lets, manyNames(), manyLoops()} {
		items, after, e := told(t, x, l)
		want, nodes, work, f := meant(x, l)
		if work > api.MaxWork || f != api.OK {
			t.Fatalf("the work is %d: %d", work, f)
		}
		if e != f || !slices.Equal(items, want) || !slices.Equal(after, nodes) {
			t.Errorf("%s, want %s", shown(items, e), shown(want, f))
		}
	}
}

// manyNames: a hundred variables, used behind as many Ifs within one another.
func manyNames() api.Expr {
	const many = 100
	name := func(i int) string { return "x" + strings.Repeat("y", i%10) + strings.Repeat("z", i/10) }
	x := seq()
	for i := range many {
		x.Args = append(x.Args, v(name(i)))
	}
	x = call("sum", x)
	for range many {
		x = cond(seq(), seq(), x)
	}
	for i := range many {
		x = let(name(i), n(i), x)
	}
	return x
}

// manyLoops: within one another, each with a name and an At that all within it use.
func manyLoops() api.Expr {
	x := seq()
	for i := range api.MaxLoops {
		x.Args = append(x.Args, v(string(rune('a'+i))), v(string(rune('A'+i))))
	}
	for i := range api.MaxLoops {
		over := []api.Expr{n(i), n(7)}[:1+i%2]
		x = loop(string(rune('a'+i)), string(rune('A'+i)), call("reverse", seq(over...)), x)
	}
	return x
}
