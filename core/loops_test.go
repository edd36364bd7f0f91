package core_test

import (
	"testing"

	"pleacher/api"
)

// P6.4
func TestPaths(t *testing.T) {
	child := func(name string, x api.Expr) api.Expr { return step(api.Child, named(name), x) }
	below := step(api.DescendantOrSelf, anyNode, document)
	overDot := func(x, y api.Expr) api.Expr { return call("ddo", loop(".", "", x, y)) }
	lowerQueries(t, []meant{
		{"/", document}, {"/r", child("r", document)}, {"/r/a", child("a", child("r", document))}, {"//a", child("a", below)},
		{"/r/@k", step(api.Attribute, named("k"), child("r", document))}, {"/r/..", step(api.Parent, anyNode, child("r", document))},
		{"//a/text()", step(api.Child, api.Test{Kind: api.TextTest}, child("a", below))},
		{"1/2", overDot(num(1), num(2))}, {"/r/.", overDot(child("r", document), dot)}, {"/r/./a", child("a", overDot(child("r", document), dot))},
		{"/(a)", child("a", document)}, {"/r/(a, b)", overDot(child("r", document), seq(child("a", dot), child("b", dot)))},
		{"/r/name(.)", overDot(child("r", document), call("name", dot))},
		{"/r/count(a/b)", overDot(child("r", document), call("count", child("b", child("a", dot))))},
		{"//a[1]", overDot(below, kept(child("a", dot), num(1)))},
		{"/r/(1/.)", overDot(child("r", document), overDot(num(1), dot))},
	})
	lowerAll(t, []lowered{
		{phrase(api.Path, pRoot, pStep(api.Self, api.Test{Kind: api.AnyNode, Name: "n"})), step(api.Self, api.Test{Kind: api.AnyNode, Name: "n"}, document)},
		{inPath(phrase(api.Path, pDot, pDot)), mappedInPath(overDot(dot, dot))},
	})
	refuse(t, []notLowered{
		{phrase(api.Path, pDot, pOne), api.ErrNone}, {phrase(api.Path, pStep(api.Child, anyNode), pOne), api.ErrNone},
		{phrase(api.Path, pRoot, pStep(api.Child, anyNode, pOne)), api.ErrCount}, {phrase(api.Path, pRoot, pStep(13, anyNode)), api.ErrKind},
		{phrase(api.Path, pRoot, pStep(1, api.Test{Kind: 6})), api.ErrKind}, {phrase(api.Path, pRoot, pCall("last")), api.ErrNone},
		{phrase(api.Seq, inPath(pDot), pDot), api.ErrNone}, {phrase(api.Path, pRoot, pVar(".all")), api.ErrNone},
	})
}

// P6.4
func TestFilters(t *testing.T) {
	lowerAll(t, []lowered{
		{phrase(api.Filter, pOne), num(1)},
		{phrase(api.Filter, pOne, pNum(2)), kept(num(1), num(2))},
		{phrase(api.Filter, pOne, pNum(2), pNum(3), pNum(4)), kept(kept(kept(num(1), num(2)), num(3)), num(4))},
		{phrase(api.Filter, phrase(api.Filter, pOne, pNum(2)), pNum(3)), kept(kept(num(1), num(2)), num(3))},
		{inDot(inDot(pDot)), keptInDot(keptInDot(dot))},
		{inDot(phrase(api.Filter, pDot, pCall("last"))), keptInDot(kept(dot, ref(".last")))},
		{inDot(pVar(".all")), keptInDot(ref(".all"))}, // these are in scope, as the core has them
		{inDot(pVar(".last")), keptInDot(ref(".last"))},
		{inDot(inPath(pCall("position"))), keptInDot(mappedInPath(ref(".at")))},
	})
	lowerQueries(t, []meant{
		{"(1, 2)[. = 2]", kept(seq(num(1), num(2)), call("=", dot, num(2)))},
		{"(/)[position() = last()]", kept(document, call("=", ref(".at"), ref(".last")))},
		{"(/)[a]", kept(document, step(api.Child, named("a"), dot))},
	})
	refuse(t, []notLowered{
		{phrase(api.Filter, pDot, pOne), api.ErrNone}, {phrase(api.Seq, inDot(pDot), pDot), api.ErrNone},
		{phrase(api.Seq, inDot(pDot), pCall("position")), api.ErrNone}, {phrase(api.Seq, inDot(pDot), pCall("last")), api.ErrNone},
		{phrase(api.Seq, inDot(pDot), pVar(".all")), api.ErrNone}, {phrase(api.Filter, pCall("last"), pOne), api.ErrNone},
		{phrase(api.Filter, pVar(".all"), pOne), api.ErrNone},
	})
}

// P6.4
func TestQuantified(t *testing.T) {
	some := func(name string, x, y api.Expr) api.Expr {
		return call("exists", loop(name, "", x, when(call("boolean", y), yes, seq())))
	}
	every := func(name string, x, y api.Expr) api.Expr {
		return call("empty", loop(name, "", x, when(call("boolean", y), seq(), yes)))
	}
	lowerQueries(t, []meant{
		{"some $x in (/) satisfies $x", some("x", document, ref("x"))},
		{"every $x in (/) satisfies $x", every("x", document, ref("x"))},
		{"some $x in 1 satisfies every $y in $x satisfies $x = $y", some("x", num(1), every("y", ref("x"), call("=", ref("x"), ref("y"))))},
	})
	lowerAll(t, []lowered{
		{pQuantified(api.Some, longest, pOne, pVar(longest)), some(longest, num(1), ref(longest))},
		{pQuantified(api.Every, ".", pOne, pDot), every(".", num(1), dot)},
	})
	for _, kind := range []int{api.Some, api.Every} {
		refuse(t, []notLowered{
			{pQuantified(kind, "", pOne, pOne), api.ErrName}, {pQuantified(kind, tooLong, pOne, pOne), api.ErrName},
			{pQuantified(kind, "x", pVar("x"), pOne), api.ErrNone}, {pQuantified(kind, "x", pOne, pVar("y")), api.ErrNone},
			{pQuantified(kind, "x", pOne, pDot), api.ErrNone}, {phrase(api.Seq, pQuantified(kind, "x", pOne, pOne), pVar("x")), api.ErrNone},
		})
	}
}
