package core_test

import (
	"strings"
	"testing"

	"pleacher/api"
)

// manyPhrases of a phrase.
func manyPhrases(n int, p api.Phrase) []api.Phrase {
	var l []api.Phrase
	for range n {
		l = append(l, p)
	}
	return l
}

// inDot: a phrase where the variables of a filter are in scope; and what it comes to there.
func inDot(p api.Phrase) api.Phrase    { return phrase(api.Filter, pRoot, p) }
func keptInDot(x api.Expr) api.Expr    { return kept(document, x) }
func inLet(p api.Phrase) api.Phrase    { return flwor(p, letBe("x", pRoot)) }
func boundInLet(x api.Expr) api.Expr   { return let("x", document, x) }
func inPath(p api.Phrase) api.Phrase   { return phrase(api.Path, pRoot, p) }
func mappedInPath(x api.Expr) api.Expr { return call("ddo", loop(".", "", document, x)) }

// P6.3: of each Kind how many parts it has.
func TestLowerKindsAndParts(t *testing.T) {
	for _, c := range []struct {
		p           api.Phrase
		least, most int
	}{
		{pOne, 0, 0}, {pRoot, 0, 0}, {pDot, 0, 0}, {pVar("x"), 0, 0}, {pStep(api.Child, anyNode), 0, 0}, {phrase(api.Seq), 0, 9},
		{phrase(api.If), 3, 3}, {pNode(api.Elem, "e"), 1, 1}, {phrase(api.Path), 2, 2}, {phrase(api.Filter), 1, 9},
		{pQuantified(api.Some, "y"), 2, 2}, {pQuantified(api.Every, "y"), 2, 2}, {pBinary("+"), 2, 2}, {phrase(api.Minus), 1, 1},
		{phrase(api.Flwor), 1, 1}, {flwor(pOne, letBe("y", pOne)), 1, 1},
	} {
		for n := range 5 {
			c.p.Args = manyPhrases(n, pRoot)
			if p := inDot(inLet(c.p)); n < c.least || n > c.most {
				refuse(t, []notLowered{{p, api.ErrCount}})
			} else {
				mustLower(t, p)
			}
		}
	}
	for _, kind := range []int{0, -1, 12, 20, 29, api.Let, api.For, api.Sorted, least, most} {
		refuse(t, []notLowered{
			{phrase(kind), api.ErrKind},
			{api.Phrase{Kind: kind, Name: "x", Args: manyPhrases(2, pRoot)}, api.ErrKind},
			{api.Phrase{Kind: kind, Name: "x", Args: manyPhrases(3, pRoot)}, api.ErrKind},
			{phrase(api.Seq, pRoot, phrase(kind)), api.ErrKind},
		})
	}
}

// P6.3
func TestLowerLeaves(t *testing.T) {
	lowerAll(t, []lowered{
		{pOne, num(1)}, {pNum(-api.MaxInt), num(-api.MaxInt)}, {pLit(text("é")), lit(text("é"))}, {pLit(yes.Item), yes}, {pRoot, document},
		{inLet(pVar("x")), boundInLet(ref("x"))},
		{inPath(pDot), mappedInPath(dot)}, {inDot(pDot), keptInDot(dot)},
		{phrase(api.Seq), seq()}, {phrase(api.Seq, pOne), seq(num(1))}, {phrase(api.Seq, pOne, pRoot, phrase(api.Seq)), seq(num(1), document, seq())},
		{phrase(api.If, pOne, pNum(2), pNum(3)), when(call("boolean", num(1)), num(2), num(3))},
		{phrase(api.Minus, pOne), call("neg", num(1))}, {phrase(api.Minus, phrase(api.Minus, pRoot)), call("neg", call("neg", document))},
		{inDot(pStep(api.Parent, anyNode)), keptInDot(step(api.Parent, anyNode, dot))},
		{inDot(pStep(api.Attribute, named("k"))), keptInDot(step(api.Attribute, named("k"), dot))},
	})
	refuse(t, []notLowered{
		{pNum(api.MaxInt + 1), api.ErrValue}, {pLit(api.Item{}), api.ErrValue}, {pLit(api.Item{Kind: api.IsNode}), api.ErrValue},
		{pLit(text("\xff")), api.ErrValue}, {pLit(api.Item{Kind: api.IsInt, S: "1"}), api.ErrValue},
		{pVar("x"), api.ErrNone}, {pVar(""), api.ErrNone}, {pDot, api.ErrNone}, {inLet(pVar("y")), api.ErrNone}, {inLet(pDot), api.ErrNone},
		{inLet(pVar("")), api.ErrNone},
		{pStep(api.Child, anyNode), api.ErrNone}, {pStep(0, anyNode), api.ErrKind}, {pStep(13, anyNode), api.ErrKind},
		{pStep(api.Child, api.Test{}), api.ErrKind}, {pStep(api.Child, api.Test{Kind: 6}), api.ErrKind},
		{inDot(pStep(0, anyNode)), api.ErrKind}, {inDot(pStep(api.Child, api.Test{Kind: 6})), api.ErrKind},
		{pStep(0, anyNode, pOne), api.ErrCount},
	})
}

// P6.3: what a phrase has beside what its Kind has does not count, and is not told.
func TestLowerBeside(t *testing.T) {
	beside := func(p api.Phrase) api.Phrase {
		full := api.Phrase{Kind: p.Kind, Item: api.Item{Kind: 9, N: 9, S: "9"}, Name: tooLong, N: 9, Axis: 99, Test: api.Test{Kind: 99, Name: "t"},
			Args: p.Args, Clauses: []api.Clause{{Kind: 99}}}
		switch p.Kind {
		case api.Lit:
			full.Item = p.Item
		case api.Var, api.Call, api.Binary, api.Some, api.Every:
			full.Name = p.Name
		case api.Step:
			full.Axis, full.Test = p.Axis, p.Test
		case api.Make:
			full.N = p.N
			if p.N != api.Text {
				full.Name = p.Name
			}
		case api.Flwor:
			full.Clauses = p.Clauses
		}
		return full
	}
	for _, p := range []api.Phrase{pOne, pVar("x"), pDot, pRoot, phrase(api.Seq), phrase(api.Seq, pOne), phrase(api.If, pOne, pOne, pOne),
		phrase(api.Minus, pOne), pBinary("|", pRoot, pRoot), pNode(api.Elem, "e", pOne), pNode(api.Text, "", pOne), pCall("count", pOne),
		pCall("true"), pCall("last"), pCall("position"), pStep(api.Child, anyNode), phrase(api.Path, pRoot, pOne), phrase(api.Filter, pRoot, pOne),
		pQuantified(api.Some, "y", pOne, pOne), pQuantified(api.Every, "y", pOne, pOne), flwor(pOne), flwor(pOne, letBe("y", pOne))} {
		lowerAll(t, []lowered{{inDot(inLet(beside(p))), mustLower(t, inDot(inLet(p)))}})
	}
	lowerAll(t, []lowered{
		{pNode(api.Text, tooLong, pOne), node(api.Text, "", num(1))},
		{phrase(api.Path, pRoot, beside(pStep(api.Child, named("a")))), step(api.Child, named("a"), document)},
		{flwor(pOne, api.Clause{Kind: api.LetBe, Name: "y", At: "y", Down: true, Expr: pOne}), let("y", num(1), num(1))},
		{flwor(pOne, api.Clause{Kind: api.LetBe, Name: "y", At: tooLong, Expr: pOne}), let("y", num(1), num(1))},
		{flwor(pOne, api.Clause{Kind: api.ForIn, Name: "y", Down: true, Expr: pOne}), loop("y", "", num(1), num(1))},
		{flwor(pOne, api.Clause{Kind: api.Where, Name: tooLong, At: tooLong, Down: true, Expr: pOne}), when(call("boolean", num(1)), num(1), seq())},
		{flwor(pOne, forIn("y", "", pOne), api.Clause{Kind: api.OrderBy, Name: tooLong, At: tooLong, Expr: pOne}), sorted("y", "", 0, num(1), num(1), num(1))},
	})
	refuse(t, []notLowered{
		{flwor(pVar("z"), api.Clause{Kind: api.LetBe, Name: "y", At: "z", Expr: pOne}), api.ErrNone},
		{flwor(pVar("z"), api.Clause{Kind: api.Where, Name: "z", At: "z", Expr: pOne}), api.ErrNone},
		{flwor(pVar("z"), forIn("y", "", pOne), api.Clause{Kind: api.OrderBy, Name: "z", At: "z", Expr: pOne}), api.ErrNone},
	})
}

// P6.3
func TestLowerBinaries(t *testing.T) {
	for _, name := range strings.Fields("or and = != < <= > >= is << >> to + - * div mod | union intersect except") {
		want := name
		if name == "|" {
			want = "union"
		}
		lowerAll(t, []lowered{{pBinary(name, pOne, pRoot), call(want, num(1), document)}})
	}
	for _, name := range []string{"", "concat", "contains", "starts", "holds", "count", "substring", "neg", ",", "/", "Or", "||", "starts-with", ":=", "//"} {
		refuse(t, []notLowered{{pBinary(name, pOne, pOne), api.ErrNone}, {pBinary(name, pOne), api.ErrCount}, {pBinary(name, phrase(0), pOne), api.ErrNone}})
	}
}

// P6.3
func TestLowerMakes(t *testing.T) {
	lowerAll(t, []lowered{
		{pNode(api.Elem, "e", pOne), node(api.Elem, "e", num(1))}, {pNode(api.Attr, longest, pOne), node(api.Attr, longest, num(1))},
		{pNode(api.Text, "", phrase(api.Seq)), node(api.Text, "", seq())},
	})
	refuse(t, []notLowered{
		{pNode(0, "e", pOne), api.ErrKind}, {pNode(api.Comment, "e", pOne), api.ErrKind}, {pNode(api.Doc, "e", pOne), api.ErrKind},
		{pNode(api.Elem, "", pOne), api.ErrSize}, {pNode(api.Attr, tooLong, pOne), api.ErrSize}, {pNode(api.Elem, "1", pOne), api.ErrName},
		{pNode(0, "", pDot), api.ErrKind}, {pNode(api.Elem, "", pDot), api.ErrSize}, {pNode(api.Attr, "-", pDot), api.ErrName},
		{pNode(api.Elem, "e", pDot), api.ErrNone}, {pNode(0, ""), api.ErrCount},
	})
}

// calls: what queries call, what it is in the core, and with how many arguments.
var calls = map[string]struct {
	name string
	args int
}{
	"count": {"count", 1}, "empty": {"empty", 1}, "exists": {"exists", 1}, "not": {"not", 1}, "boolean": {"boolean", 1}, "sum": {"sum", 1},
	"min": {"min", 1}, "max": {"max", 1}, "distinct-values": {"distinct", 1}, "reverse": {"reverse", 1}, "string": {"string", 1},
	"data": {"data", 1}, "integer": {"integer", 1}, "name": {"name", 1}, "string-length": {"length", 1},
	"concat": {"concat", 2}, "contains": {"contains", 2}, "starts-with": {"starts", 2}, "substring": {"substring", 3},
}

// P6.3
func TestLowerCalls(t *testing.T) {
	for name, f := range calls {
		for n := range 5 {
			if n != f.args {
				refuse(t, []notLowered{{pCall(name, manyPhrases(n, pDot)...), api.ErrCount}})
				continue
			}
			lowerAll(t, []lowered{{pCall(name, manyPhrases(n, pRoot)...), call(f.name, many(n, document)...)}})
		}
	}
	for _, name := range append([]string{"", "f", "Count", "True", "text", "|"},
		strings.Fields("distinct length starts ddo neg holds + - * div mod = != < <= > >= is << >> and or to union intersect except")...) {
		for n := range 4 {
			refuse(t, []notLowered{{pCall(name, manyPhrases(n, phrase(0))...), api.ErrNone}})
		}
	}
	lowerAll(t, []lowered{
		{pCall("true"), yes}, {pCall("false"), no},
		{inDot(pCall("position")), keptInDot(ref(".at"))}, {inDot(pCall("last")), keptInDot(ref(".last"))},
	})
	for _, name := range []string{"true", "false", "position", "last"} {
		refuse(t, []notLowered{{pCall(name, pOne), api.ErrCount}, {pCall(name, phrase(0), pOne), api.ErrCount}, {inDot(pCall(name, pOne)), api.ErrCount}})
	}
	for _, name := range []string{"position", "last"} {
		refuse(t, []notLowered{{pCall(name), api.ErrNone}, {inPath(pCall(name)), api.ErrNone}, {inLet(pCall(name)), api.ErrNone}})
	}
}

// P6.3: the one that is refused first, an outer one ahead of what is in it, from left to right.
func TestLowerOrder(t *testing.T) {
	none, kind, count, value := pVar("x"), phrase(0), phrase(api.If), pLit(api.Item{})
	refuse(t, []notLowered{
		{phrase(api.Seq, none, kind), api.ErrNone}, {phrase(api.Seq, kind, none), api.ErrKind}, {phrase(api.Seq, phrase(api.Seq, count), kind), api.ErrCount},
		{phrase(api.If, none, value, kind), api.ErrNone}, {phrase(api.If, pOne, value, kind), api.ErrValue}, {phrase(api.If, pOne, pOne, kind), api.ErrKind},
		{phrase(api.If, none, value), api.ErrCount}, {phrase(api.Minus, value), api.ErrValue}, {pBinary("+", value, none), api.ErrValue},
		{pBinary("+", none, value), api.ErrNone}, {pBinary("f", value, value), api.ErrNone}, {pBinary("f", value), api.ErrCount},
		{pCall("f", value), api.ErrNone}, {pCall("count", value, none), api.ErrCount}, {pCall("concat", value, none), api.ErrValue},
		{phrase(api.Path, value, none), api.ErrValue}, {phrase(api.Path, none, value), api.ErrNone},
		{phrase(api.Path, value, pStep(0, anyNode)), api.ErrValue}, {phrase(api.Path, pRoot, pStep(0, anyNode)), api.ErrKind},
		{phrase(api.Seq, phrase(api.Path, pRoot, pStep(0, anyNode)), none), api.ErrKind},
		{phrase(api.Path, none, pStep(api.Child, anyNode, pOne)), api.ErrNone}, {phrase(api.Path, pRoot, pStep(0, anyNode, pOne)), api.ErrCount},
		{phrase(api.Filter, value, none), api.ErrValue}, {phrase(api.Filter, none, value), api.ErrNone}, {phrase(api.Filter, pRoot, none, value), api.ErrNone},
		{phrase(api.Filter, pRoot, value, none), api.ErrValue}, {phrase(api.Filter), api.ErrCount},
		{pQuantified(api.Some, "", value, none), api.ErrName}, {pQuantified(api.Every, "y", value, none), api.ErrValue},
		{pQuantified(api.Some, "y", none, value), api.ErrNone}, {pQuantified(api.Some, "", value), api.ErrCount},
	})
}
