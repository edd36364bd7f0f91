package core_test

import (
	"strings"
	"testing"

	"pleacher/api"
)

// many of an expression.
func many(n int, x api.Expr) []api.Expr {
	var l []api.Expr
	for range n {
		l = append(l, x)
	}
	return l
}

// P6.1: of each Kind how many Args it has.
func TestCheckKindsAndArgs(t *testing.T) {
	for _, c := range []struct {
		x    api.Expr
		args int
	}{
		{num(1), 0}, {document, 0}, {seq(), -1}, {let("x"), 2}, {loop("x", ""), 2}, {loop("x", "y"), 2}, {sorted("x", "", 0), 3},
		{sorted("x", "y", 1), 3}, {when(), 3}, {step(api.Child, anyNode), 1}, {node(api.Elem, "e"), 1}, {node(api.Text, ""), 1},
	} {
		for n := range 6 {
			want := api.ErrCount
			if c.args == n || c.args < 0 {
				want = api.OK
			}
			c.x.Args = many(n, document)
			checkAll(t, []checked{{c.x, want}})
		}
	}
	for _, kind := range []int{0, -1, 12, 20, api.Path, api.Filter, api.Some, api.Every, api.Binary, api.Minus, api.Dot, api.Flwor, least, most} {
		checkAll(t, []checked{
			{api.Expr{Kind: kind}, api.ErrKind},
			{api.Expr{Kind: kind, Name: "x", Args: many(2, document)}, api.ErrKind},
			{seq(document, api.Expr{Kind: kind}), api.ErrKind},
		})
	}
}

// P6.1
func TestCheckLits(t *testing.T) {
	checkAll(t, []checked{
		{num(0), api.OK}, {num(api.MaxInt), api.OK}, {num(-api.MaxInt), api.OK}, {yes, api.OK}, {no, api.OK},
		{lit(text("")), api.OK}, {lit(text("é\n")), api.OK}, {lit(text(strings.Repeat("x", api.MaxText))), api.OK},
		{num(api.MaxInt + 1), api.ErrValue}, {num(-api.MaxInt - 1), api.ErrValue}, {num(least), api.ErrValue},
		{lit(api.Item{}), api.ErrValue}, {lit(api.Item{Kind: 5}), api.ErrValue}, {lit(api.Item{Kind: api.IsBool, N: 2}), api.ErrValue},
		{lit(text("\xff")), api.ErrValue}, {lit(text("\x00")), api.ErrValue}, {lit(text(strings.Repeat("x", api.MaxText+1))), api.ErrValue},
		{lit(api.Item{Kind: api.IsInt, S: "1"}), api.ErrValue}, {lit(api.Item{Kind: api.IsText, N: 1}), api.ErrValue},
		{lit(api.Item{Kind: api.IsNode}), api.ErrValue}, {lit(api.Item{Kind: api.IsNode, N: 1}), api.ErrValue},
		{lit(api.Item{Kind: api.IsNode, N: -1}), api.ErrValue},
		{api.Expr{Kind: api.Lit, Item: api.Item{}, Args: many(1, document)}, api.ErrCount},
	})
}

// P6.1: what is in scope, and where.
func TestCheckScope(t *testing.T) {
	x, y := ref("x"), ref("y")
	checkAll(t, []checked{
		{x, api.ErrNone}, {ref(""), api.ErrNone}, {ref("."), api.ErrNone}, {ref(tooLong), api.ErrNone},
		{let("x", document, x), api.OK}, {let("x", x, document), api.ErrNone}, {let("x", document, y), api.ErrNone},
		{let("x", document, ref("")), api.ErrNone}, {let("x", document, ref("X")), api.ErrNone},
		{loop("x", "", document, x), api.OK}, {loop("x", "", x, document), api.ErrNone}, {loop("x", "", document, ref("")), api.ErrNone},
		{loop("x", "y", document, y), api.OK}, {loop("x", "y", document, seq(x, y)), api.OK}, {loop("x", "y", y, document), api.ErrNone},
		{sorted("x", "", 0, document, x, x), api.OK}, {sorted("x", "", 0, x, num(1), num(1)), api.ErrNone},
		{sorted("x", "y", 1, document, y, num(1)), api.OK}, {sorted("x", "y", 1, document, num(1), y), api.OK},
		{sorted("x", "y", 0, y, num(1), num(1)), api.ErrNone}, {sorted("x", "", 0, document, y, num(1)), api.ErrNone},
		{sorted("x", "", 0, document, num(1), y), api.ErrNone},
		{seq(let("x", document, x), x), api.ErrNone}, {seq(loop("x", "y", document, x), y), api.ErrNone},
		{seq(sorted("x", "y", 0, document, x, y), x), api.ErrNone},
		{let("x", document, seq(let("x", x, x), x)), api.OK}, // the inner one is left, the outer one is not
		{let("x", document, seq(loop("y", "x", x, x), x)), api.OK},
		{let("x", document, seq(loop("y", "", x, x), y)), api.ErrNone},
		{let("x", document, let("y", x, seq(x, y))), api.OK}, {let("x", let("y", document, y), y), api.ErrNone},
		{let("x", document, when(x, call("count", x), step(api.Child, anyNode, node(api.Text, "", x)))), api.OK},
		{let(".", document, ref(".")), api.OK}, {let(" \xff", document, ref(" \xff")), api.OK},
		{api.Expr{Kind: api.Let, Name: "x", At: "y", Args: []api.Expr{document, y}}, api.ErrNone}, // a Let's At does not count
	})
}

// P6.1
func TestCheckNames(t *testing.T) {
	two, three := many(2, document), many(3, document)
	checkAll(t, []checked{
		{let(longest, two...), api.OK}, {let("", two...), api.ErrName}, {let(tooLong, two...), api.ErrName}, {let("1 \x00", two...), api.OK},
		{loop(longest, "", two...), api.OK}, {loop("", "", two...), api.ErrName}, {loop(tooLong, "", two...), api.ErrName},
		{loop("", "y", two...), api.ErrName}, {loop("x", longest, two...), api.OK}, {loop("x", tooLong, two...), api.ErrName},
		{loop("x", "x", two...), api.ErrTwice}, {loop(longest, longest, two...), api.ErrTwice}, {loop(tooLong, tooLong, two...), api.ErrName},
		{loop("x", "X", two...), api.OK},
		{sorted("", "", 0, three...), api.ErrName}, {sorted(tooLong, "", 0, three...), api.ErrName}, {sorted("x", tooLong, 0, three...), api.ErrName},
		{sorted("x", "x", 0, three...), api.ErrTwice}, {sorted(longest, "y", 1, three...), api.OK}, {sorted("x", "", most, three...), api.OK},
		{api.Expr{Kind: api.Let, Name: "x", At: "x", Args: two}, api.OK},
		{api.Expr{Kind: api.Let, Name: "x", At: tooLong, Args: two}, api.OK},
	})
}

// P6.1
func TestCheckStepsAndNodes(t *testing.T) {
	for axis := api.Child; axis <= api.Attribute; axis++ {
		for kind := api.AnyNode; kind <= api.AnyNamed; kind++ {
			checkAll(t, []checked{{step(axis, api.Test{Kind: kind}, document), api.OK}, {step(axis, api.Test{Kind: kind, Name: tooLong}, document), api.OK}})
		}
	}
	for _, n := range []int{0, -1, 13, least, most} {
		checkAll(t, []checked{{step(n, anyNode, document), api.ErrKind}})
	}
	for _, n := range []int{0, -1, 6, least, most} {
		checkAll(t, []checked{{step(api.Child, api.Test{Kind: n}, document), api.ErrKind}})
	}
	checkAll(t, []checked{
		{node(api.Elem, "e", seq()), api.OK}, {node(api.Attr, "a.b-1", seq()), api.OK}, {node(api.Text, "", seq()), api.OK},
		{node(api.Elem, longest, seq()), api.OK}, {node(api.Text, tooLong, seq()), api.OK}, {node(api.Text, "1 ", seq()), api.OK},
		{node(api.Elem, "", seq()), api.ErrSize}, {node(api.Attr, tooLong, seq()), api.ErrSize}, {node(api.Elem, "1", seq()), api.ErrName},
		{node(api.Attr, "a b", seq()), api.ErrName}, {node(api.Comment, "e", seq()), api.ErrKind}, {node(api.Doc, "e", seq()), api.ErrKind},
		{node(0, "", seq()), api.ErrKind}, {node(least, "e", seq()), api.ErrKind}, {node(api.End, "1", seq()), api.ErrKind},
	})
}

// P6.1: the one that is refused first, an outer one ahead of what is in it, from left to right.
func TestCheckOrder(t *testing.T) {
	none, kind, count, value, name := ref("x"), api.Expr{}, when(), lit(api.Item{}), let("", seq(), seq())
	checkAll(t, []checked{
		{seq(none, kind), api.ErrNone}, {seq(kind, none), api.ErrKind}, {seq(seq(seq(count)), kind), api.ErrCount},
		{seq(value, count), api.ErrValue}, {seq(name, value), api.ErrName}, {when(none, value), api.ErrCount},
		{call("f", none, value), api.ErrNone}, {call("count", value, value), api.ErrCount}, {call("count", value), api.ErrValue},
		{let("", kind, none), api.ErrName}, {let("", kind), api.ErrCount}, {loop("y", "y", kind, none), api.ErrTwice},
		{let("y", kind, none), api.ErrKind}, {let("y", document, seq(none, kind)), api.ErrNone},
		{sorted("y", "", 0, document, value, none), api.ErrValue}, {sorted("y", "", 0, document, none, value), api.ErrNone},
		{step(0, anyNode, none), api.ErrKind}, {step(0, anyNode), api.ErrCount}, {step(api.Child, anyNode, none), api.ErrNone},
		{node(0, "", none), api.ErrKind}, {node(api.Elem, "", none), api.ErrSize}, {node(api.Elem, "1", kind), api.ErrName},
		{node(api.Elem, "e", none), api.ErrNone}, {node(0, ""), api.ErrCount},
	})
}

// P6.1: as many loops, constructors and expressions as may be, and one more.
func TestCheckSizes(t *testing.T) {
	aLoop, aSort := loop("x", "", document, ref("x")), sorted("x", "", 0, document, ref("x"), ref("x"))
	aNode := node(api.Elem, "e", seq())
	checkAll(t, []checked{
		{seq(many(api.MaxLoops, aLoop)...), api.OK}, {seq(many(api.MaxLoops+1, aLoop)...), api.ErrSize},
		{seq(many(api.MaxLoops, aSort)...), api.OK}, {seq(many(api.MaxLoops+1, aSort)...), api.ErrSize},
		{seq(append(many(api.MaxLoops-1, aLoop), aSort)...), api.OK}, {seq(append(many(api.MaxLoops, aLoop), aSort)...), api.ErrSize},
		{seq(many(api.MaxMakes, aNode)...), api.OK}, {seq(many(api.MaxMakes+1, aNode)...), api.ErrSize},
		{seq(append(many(api.MaxMakes, aNode), many(api.MaxLoops, aLoop)...)...), api.OK},
		{seq(many(api.MaxParts-1, document)...), api.OK}, {seq(many(api.MaxParts, document)...), api.ErrSize},
		{seq(append(many(api.MaxParts, document), api.Expr{})...), api.ErrKind}, // it is told at last
		{seq(append(many(api.MaxLoops+1, aLoop), ref("x"))...), api.ErrNone},
		{seq(append(many(api.MaxMakes+1, aNode), num(most))...), api.ErrValue},
		{seq(many(100, let("x", document, ref("x")))...), api.OK},
	})
	deep, wide := document, document
	for range api.MaxLoops {
		deep = loop("x", "", document, deep)
	}
	for range api.MaxParts - 1 {
		wide = seq(wide)
	}
	checkAll(t, []checked{
		{deep, api.OK}, {loop("x", "", document, deep), api.ErrSize}, {loop("x", "", deep, document), api.ErrSize},
		{wide, api.OK}, {seq(wide), api.ErrSize},
	})
}

// P6.1: parts within one another, as many as a program may be given.
func TestCheckDeep(t *testing.T) {
	inBody, inValue, inSeq := ref("x"), ref("x"), ref("x")
	for range 1<<16 - 1 {
		inBody = loop("x", "", document, inBody)
		inValue = let("x", inValue, document)
		inSeq = seq(inSeq)
	}
	checkAll(t, []checked{{inBody, api.ErrSize}, {inValue, api.ErrNone}, {inSeq, api.ErrNone}})
}

var coreFunctions = []struct {
	args  int
	names string
}{
	{1, "count empty exists not boolean sum min max distinct reverse string data integer name length ddo neg"},
	{2, "concat contains starts + - * div mod = != < <= > >= is << >> and or to union intersect except holds"},
	{3, "substring"},
}

// P6.2
func TestFunctions(t *testing.T) {
	for _, l := range coreFunctions {
		for _, name := range strings.Fields(l.names) {
			for n := range 5 {
				want := api.ErrCount
				if n == l.args {
					want = api.OK
				}
				checkAll(t, []checked{{call(name, many(n, document)...), want}})
			}
		}
	}
	for _, name := range []string{"", "f", "Count", "count ", "|", "distinct-values", "string-length", "starts-with", "true", "false", "position",
		"last", "//", "..", ",", ":=", "idiv", "eq", "substring-after", "node", "ebv", "span", "one", tooLong} {
		for n := range 4 {
			checkAll(t, []checked{{call(name, many(n, document)...), api.ErrNone}})
		}
	}
}
