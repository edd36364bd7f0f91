package core_test

import (
	"reflect"
	"strings"
	"testing"

	"pleacher/api"
	"pleacher/core"
)

// P6.6: as many parts, loops and constructors as may be, and one more.
func TestLowerSizes(t *testing.T) {
	aLoop, aSort := flwor(pOne, forIn("x", "", pOne)), flwor(pOne, forIn("x", "", pOne), orderBy(pOne, false))
	aNode, inKey := pNode(api.Elem, "e", pOne), flwor(pOne, forIn("x", "", pOne), letBe("y", aLoop), orderBy(pOne, false))
	nodeInKey := flwor(pOne, forIn("x", "", pOne), letBe("y", aNode), orderBy(pOne, false))
	for i, c := range []struct {
		p    api.Phrase
		many int // so many of it may be
	}{
		{pOne, api.MaxParts - 1},
		{phrase(api.Minus, pOne), (api.MaxParts - 1) / 2},
		{aLoop, api.MaxLoops}, {aSort, api.MaxLoops}, {inDot(pOne), api.MaxLoops}, {inPath(pOne), api.MaxLoops},
		{pQuantified(api.Some, "x", pOne, pOne), api.MaxLoops}, {pQuantified(api.Every, "x", pOne, pOne), api.MaxLoops},
		{inKey, api.MaxLoops / 3}, // what is in a Let stands twice: ahead of the key, and in the body
		{aNode, api.MaxMakes}, {nodeInKey, api.MaxMakes / 2},
		{inPath(pStep(api.Child, anyNode)), (api.MaxParts - 1) / 2},
	} {
		if x, e := core.Lower(phrase(api.Seq, manyPhrases(c.many, c.p)...)); e != api.OK || len(x.Args) != c.many || core.Check(x) != api.OK {
			t.Errorf("case %d: as many as may be: %d, %d of them", i, e, len(x.Args))
		}
		refuse(t, []notLowered{{phrase(api.Seq, manyPhrases(c.many+1, c.p)...), api.ErrSize}})
	}
}

// P6.6: that there is too much is told at last.
func TestLowerSizeAtLast(t *testing.T) {
	loops := manyPhrases(api.MaxLoops+1, inPath(pOne))
	for _, l := range [][]api.Phrase{manyPhrases(api.MaxParts+5, pOne), loops, manyPhrases(api.MaxMakes+1, pNode(api.Text, "", pOne))} {
		for _, c := range []notLowered{{phrase(0), api.ErrKind}, {pDot, api.ErrNone}, {pNum(most), api.ErrValue}, {phrase(api.If), api.ErrCount},
			{inPath(pStep(0, anyNode)), api.ErrKind}, {pQuantified(api.Some, "", pOne, pOne), api.ErrName}, {flwor(pOne, where(pOne), where(pOne)), api.ErrForm},
			{flwor(pOne, forIn("x", "x", pOne)), api.ErrTwice}, {flwor(pVar("y"), forIn("x", "", pOne), letBe("z", pOne), orderBy(pOne, true)), api.ErrNone}} {
			refuse(t, []notLowered{
				{phrase(api.Seq, append(append([]api.Phrase{}, l...), c.p)...), c.want},
				{flwor(c.p, letBe("v", phrase(api.Seq, l...))), c.want},
				{phrase(api.Filter, append(append([]api.Phrase{}, l...), c.p)...), asPredicate(c)},
			})
		}
	}
	long := make([]api.Clause, 300000)
	for i := range long {
		long[i] = letBe("x", pOne)
	}
	refuse(t, []notLowered{{flwor(pVar("x"), long...), api.ErrSize}, {flwor(pVar("y"), long...), api.ErrNone}})
}

// asPredicate: what is refused of a phrase that stands as a predicate; a Dot is in scope there, and so there is only too much.
func asPredicate(c notLowered) api.Errno {
	if c.p.Kind == api.Dot {
		return api.ErrSize
	}
	return c.want
}

// P6.6: parts within one another, as many as a program may be given. What stands twice in what stands twice is not written out.
func TestLowerDeep(t *testing.T) {
	for i, around := range []func(p api.Phrase) api.Phrase{
		func(p api.Phrase) api.Phrase {
			return flwor(pOne, forIn("x", "", pOne), letBe("y", p), orderBy(pOne, false))
		},
		func(p api.Phrase) api.Phrase {
			return flwor(pOne, forIn("x", "", pOne), where(pOne), orderBy(p, false))
		},
		func(p api.Phrase) api.Phrase {
			return flwor(p, forIn("x", "", pOne), letBe("y", pOne), orderBy(pOne, false))
		},
		func(p api.Phrase) api.Phrase { return phrase(api.Filter, pOne, p) },
		func(p api.Phrase) api.Phrase { return phrase(api.Filter, p, pOne) },
		func(p api.Phrase) api.Phrase { return phrase(api.Path, p, pStep(api.Child, anyNode)) },
		func(p api.Phrase) api.Phrase { return phrase(api.Path, pOne, p) },
		func(p api.Phrase) api.Phrase { return pQuantified(api.Every, "x", pOne, p) },
		func(p api.Phrase) api.Phrase { return phrase(api.If, pOne, pOne, p) },
		func(p api.Phrase) api.Phrase { return phrase(api.Seq, p) },
		func(p api.Phrase) api.Phrase { return pNode(api.Elem, "e", p) },
		func(p api.Phrase) api.Phrase { return pCall("concat", p, pOne) },
	} {
		deep, wrong := pOne, pVar("nowhere")
		for range 1<<16 - 1 {
			deep, wrong = around(deep), around(wrong)
		}
		if _, e := core.Lower(deep); e != api.ErrSize {
			t.Errorf("case %d: %d", i, e)
		}
		if _, e := core.Lower(wrong); e != api.ErrNone {
			t.Errorf("case %d, with something wrong: %d", i, e)
		}
	}
}

// lists of an expression, each with its spare room.
func lists(x api.Expr) [][]api.Expr {
	var l [][]api.Expr
	if cap(x.Args) > 0 {
		l = append(l, x.Args[:cap(x.Args)])
	}
	for _, y := range x.Args {
		l = append(l, lists(y)...)
	}
	return l
}

// All lists of an answer are new ones; what is handed in stays as it is.
func TestLowerMemory(t *testing.T) {
	query := `let $a := (1, "x") for $x at $i in //a[@k][2] let $y := ($x, //b/@k, element e { $a }) let $z := count($y)
		where some $v in $y satisfies not($v = -$z) order by ($z + 1) descending return (text { $y }, $i, if ($a) then 1 else substring("a", 1, 2))`
	query = strings.ReplaceAll(query, "\n", " ")
	p, unchanged := asked(t, query), asked(t, query)
	x, y := mustLower(t, p), mustLower(t, p)
	seen := map[*api.Expr]int{}
	for _, l := range append(lists(x), lists(y)...) {
		for i := range l {
			if seen[&l[i]]++; seen[&l[i]] > 1 {
				t.Fatal("two lists share memory")
			}
		}
	}
	for _, l := range lists(x) {
		for i := range l {
			l[i] = api.Expr{}
		}
	}
	if !reflect.DeepEqual(p, unchanged) {
		t.Error("what is handed in is changed")
	}
	if !same(y, mustLower(t, unchanged)) {
		t.Error("another answer is changed")
	}
}
