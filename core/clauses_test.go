package core_test

import (
	"testing"

	"pleacher/api"
)

// P6.5
func TestClauses(t *testing.T) {
	a, x, y := document, ref("x"), ref("y")
	lowerQueries(t, []meant{
		{"for $x in (/) return $x", loop("x", "", a, x)},
		{"for $x at $y in (/) return ($x, $y)", loop("x", "y", a, seq(x, y))},
		{"let $x := (/) return $x", let("x", a, x)},
		{"let $x := (/) let $y := $x return ($x, $y)", let("x", a, let("y", x, seq(x, y)))},
		{"let $x := (/) let $x := $x return $x", let("x", a, let("x", x, x))},
		{"for $x in (/) where $x return 1", loop("x", "", a, when(call("boolean", x), num(1), seq()))},
		{"let $x := (/) where $x return $x", let("x", a, when(call("boolean", x), x, seq()))},
		{"for $x in (/) for $y in $x let $z := ($x, $y) where $z return $z",
			loop("x", "", a, loop("y", "", x, let("z", seq(x, y), when(call("boolean", ref("z")), ref("z"), seq()))))},
		{"for $x in (/) order by $x return 1", sorted("x", "", 0, a, x, num(1))},
		{"for $x in (/) order by $x descending return 1", sorted("x", "", 1, a, x, num(1))},
		{"for $x at $y in (/) order by $y return $y", sorted("x", "y", 0, a, y, y)},
		{"for $x in (/) where $x order by 1 return 2", sorted("x", "", 0, a, num(1), when(call("boolean", x), num(2), seq()))},
		{"for $x in (/) let $y := $x order by $y return 1", sorted("x", "", 0, a, let("y", x, y), let("y", x, num(1)))},
		{"let $x := (/) for $y in $x order by $y return $x", let("x", a, sorted("y", "", 0, x, y, x))},
		{"let $a := 1 let $b := 2 for $x in (/) let $y := $a let $z := $y where $z order by ($y, $b) descending return $x",
			let("a", num(1), let("b", num(2), sorted("x", "", 1, a,
				let("y", ref("a"), let("z", y, seq(y, ref("b")))),
				let("y", ref("a"), let("z", y, when(call("boolean", ref("z")), x, seq()))))))},
		{"for $x in (/) order by 1 return for $y in (/) order by 2 descending return $x", sorted("x", "", 0, a, num(1), sorted("y", "", 1, a, num(2), x))},
	})
	lowerAll(t, []lowered{
		{flwor(pOne), num(1)},
		{flwor(pOne, where(pRoot)), when(call("boolean", a), num(1), seq())},
		{flwor(pVar(longest), forIn("x", longest, pRoot)), loop("x", longest, a, ref(longest))},
		{flwor(pDot, letBe(".", pRoot)), let(".", a, dot)},
	})
}

// P6.5: what is refused of clauses, ahead of their expressions.
func TestClausesWrong(t *testing.T) {
	loopX, letX, if1, by, none := forIn("x", "", pRoot), letBe("x", pRoot), where(pOne), orderBy(pOne, false), api.Clause{}
	bad := phrase(0)
	for _, c := range []struct {
		want api.Errno
		l    []api.Clause
	}{
		{api.ErrKind, []api.Clause{none}}, {api.ErrKind, []api.Clause{{Kind: 5}}}, {api.ErrKind, []api.Clause{{Kind: -1}}},
		{api.ErrKind, []api.Clause{{Kind: least}}}, {api.ErrKind, []api.Clause{{Kind: most, Name: "x", Expr: pOne}}},
		{api.ErrKind, []api.Clause{loopX, none}}, {api.ErrKind, []api.Clause{loopX, none, by}},
		{api.ErrForm, []api.Clause{if1, loopX}}, {api.ErrForm, []api.Clause{if1, letX}}, {api.ErrForm, []api.Clause{loopX, if1, if1}},
		{api.ErrForm, []api.Clause{loopX, if1, none}}, {api.ErrForm, []api.Clause{loopX, if1, letX, by}}, {api.ErrForm, []api.Clause{if1, loopX, by}},
		{api.ErrForm, []api.Clause{loopX, if1, if1, by}},
		{api.ErrForm, []api.Clause{by}}, {api.ErrForm, []api.Clause{letX, by}}, {api.ErrForm, []api.Clause{if1, by}},
		{api.ErrForm, []api.Clause{loopX, loopX, by}}, {api.ErrForm, []api.Clause{loopX, letX, loopX, if1, by}},
		{api.ErrForm, []api.Clause{loopX, by, letX}}, {api.ErrForm, []api.Clause{loopX, by, by}}, {api.ErrForm, []api.Clause{loopX, by, none}},
		{api.ErrForm, []api.Clause{loopX, by, if1}}, {api.ErrForm, []api.Clause{by, loopX}}, {api.ErrForm, []api.Clause{loopX, by, loopX}},
		{api.ErrForm, []api.Clause{loopX, if1, by, letX}},
		{api.ErrName, []api.Clause{forIn("", "", pRoot)}}, {api.ErrName, []api.Clause{forIn(tooLong, "", pRoot)}},
		{api.ErrName, []api.Clause{forIn("x", tooLong, pRoot)}}, {api.ErrTwice, []api.Clause{forIn("x", "x", pRoot)}},
		{api.ErrName, []api.Clause{letBe("", pRoot)}}, {api.ErrName, []api.Clause{letBe(tooLong, pRoot)}},
		{api.ErrName, []api.Clause{letBe("", pRoot), by}}, {api.ErrForm, []api.Clause{by, letBe("", pRoot)}},
		{api.ErrTwice, []api.Clause{forIn("x", "x", pRoot), none}}, {api.ErrKind, []api.Clause{none, forIn("x", "x", pRoot)}},
		{api.ErrName, []api.Clause{loopX, letBe("", pRoot), none}},
	} {
		refuse(t, []notLowered{{flwor(pOne, c.l...), c.want}, {flwor(bad, c.l...), c.want}})
		for i := range c.l { // an expression that is wrong comes behind all clauses
			l := append([]api.Clause{}, c.l...)
			l[i].Expr = pDot
			refuse(t, []notLowered{{flwor(pOne, l...), c.want}})
		}
		refuse(t, []notLowered{{api.Phrase{Kind: api.Flwor, Clauses: c.l}, api.ErrCount}})
	}
}

// P6.5: expressions of clauses that are refused: from left to right, each with what is in scope there.
func TestClausesInOrder(t *testing.T) {
	value, kind, none := pLit(api.Item{}), phrase(0), pDot
	refuse(t, []notLowered{
		{flwor(pOne, forIn("x", "y", pVar("x"))), api.ErrNone}, {flwor(pOne, forIn("x", "y", pVar("y"))), api.ErrNone},
		{flwor(pOne, letBe("x", pVar("x"))), api.ErrNone}, {flwor(pOne, letBe("x", pVar("y")), letBe("y", pOne)), api.ErrNone},
		{flwor(pVar("y"), forIn("x", "", pOne)), api.ErrNone}, {flwor(pVar(""), forIn("x", "", pOne)), api.ErrNone},
		{phrase(api.Seq, flwor(pOne, forIn("x", "y", pOne)), pVar("x")), api.ErrNone},
		{phrase(api.Seq, flwor(pOne, forIn("x", "y", pOne)), pVar("y")), api.ErrNone},
		{phrase(api.Seq, flwor(pOne, letBe("x", pOne)), pVar("x")), api.ErrNone},
		{phrase(api.Seq, flwor(pOne, forIn("x", "", pOne), orderBy(pOne, true)), pVar("x")), api.ErrNone},
		{flwor(kind, forIn("x", "", value), letBe("y", none)), api.ErrValue}, {flwor(kind, forIn("x", "", pOne), letBe("y", none)), api.ErrNone},
		{flwor(kind, forIn("x", "", pOne), where(value), orderBy(none, true)), api.ErrValue},
		{flwor(kind, forIn("x", "", pOne), where(none), orderBy(value, true)), api.ErrNone},
		{flwor(none, forIn("x", "", pOne), where(pOne), orderBy(value, true)), api.ErrValue},
		{flwor(value, forIn("x", "", pOne), where(pOne), orderBy(pOne, true)), api.ErrValue},
		{flwor(value, forIn("x", "", pOne), letBe("y", kind), orderBy(none, true)), api.ErrKind},
	})
}
