package read_test

import (
	"slices"
	"strings"
	"testing"

	"pleacher/api"
	"pleacher/read"
)

// P5.5: lists.
func TestLists(t *testing.T) {
	parseAll(t, []parsed{
		{"1", lit(1)},
		{"1, 2", seq(lit(1), lit(2))},
		{`1, "a", $x`, seq(lit(1), text("a"), variable("x"))},
		{"1, (2, 3), ()", seq(lit(1), seq(lit(2), lit(3)), seq())},
		{"for $x in 1 return 2, 3", seq(flwor(lit(2), forIn("x", "", lit(1))), lit(3))},
		{"1 or 2, 3", seq(binary("or", lit(1), lit(2)), lit(3))},
	})
	refuse(t, []notParsed{
		{"", 0, short}, {"1,", 2, short}, {"1, 2,", 4, short}, {"1, , 2", 2, form}, {",", 0, form}, {", 1", 0, form},
		{"1 2", 1, form}, {"1 )", 1, form}, {"1, 2 3", 3, form}, {"1 $x", 1, form}, {`1 "a"`, 1, form}, {"a b", 1, form},
		{")", 0, form}, {"(1", 2, short}, {"(1,", 3, short}, {"(1]", 2, form}, {"(1 2)", 2, form},
		{":=", 0, form}, {"::", 0, form}, {"=", 0, form}, {"+", 0, form}, {"|", 0, form}, {"[", 0, form}, {"{", 0, form}, {"}", 0, form},
	})
}

// P5.5: too many tokens, and such that may not be, are told ahead of all else.
func TestParseTokens(t *testing.T) {
	full := append(slices.Repeat(tokens(number(1), mark("+")), api.MaxTokens/2-1), number(1), mark("]"))
	refuseTokens(t, full, api.MaxTokens-1, form)
	refuseTokens(t, append(full, number(1)), 0, api.ErrSize)
	refuseTokens(t, append(full, api.Token{}), 0, api.ErrSize)
	refuseTokens(t, make([]api.Token, api.MaxTokens+1), 0, api.ErrSize)
	refuseTokens(t, make([]api.Token, api.MaxTokens), 0, api.ErrKind)
	most200 := append(slices.Repeat(tokens(number(1), mark("+")), api.MaxTokens/2-1), mark("-"), number(1))
	if x, at, e := read.Parse(most200); x.Kind != api.Binary || at != 0 || e != api.OK {
		t.Errorf("as many tokens as may be: %v %d %d", x, at, e)
	}
	refuseTokens(t, nil, 0, short)
	refuseTokens(t, tokens(), 0, short)
	for _, c := range []struct {
		token api.Token
		want  api.Errno
	}{
		{api.Token{}, api.ErrKind},
		{api.Token{Kind: most}, api.ErrKind},
		{number(-1), api.ErrRange},
		{api.Token{Kind: api.Word, S: "a", N: 1}, api.ErrForm},
		{quoted("\xff"), api.ErrForm},
		{quoted(strings.Repeat("x", api.MaxText+1)), api.ErrSize},
		{mark("#"), api.ErrNone},
		{word(""), api.ErrName},
		{dollar(tooLong), api.ErrName},
	} {
		refuseTokens(t, tokens(c.token), 0, c.want)
		refuseTokens(t, tokens(mark(")"), mark(","), c.token), 2, c.want)
		refuseTokens(t, tokens(number(1), c.token, api.Token{Kind: -1}, mark("#")), 1, c.want)
	}
	long := strings.Repeat("x", api.MaxText)
	if x, at, e := read.Parse(tokens(quoted(long))); !same(x, text(long)) || at != 0 || e != api.OK {
		t.Errorf("as long a text as may be: %d bytes, %d %d", len(x.Item.S), at, e)
	}
}

// P5.6: Flwor.
func TestFlwor(t *testing.T) {
	x, y := variable("x"), variable("y")
	parseAll(t, []parsed{
		{"for $x in 1 return $x", flwor(x, forIn("x", "", lit(1)))},
		{"for $x at $i in 1 return $x", flwor(x, forIn("x", "i", lit(1)))},
		{"let $x := 1 return $x", flwor(x, letBe("x", lit(1)))},
		{"let $x := 1 let $y := 2 return $x", flwor(x, letBe("x", lit(1)), letBe("y", lit(2)))},
		{"for $x in 1 let $y := 2 for $z at $x in 3 return $y",
			flwor(y, forIn("x", "", lit(1)), letBe("y", lit(2)), forIn("z", "x", lit(3)))},
		{"for $x in 1 where $x return 2", flwor(lit(2), forIn("x", "", lit(1)), where(x))},
		{"for $x in 1 order by $x return 2", flwor(lit(2), forIn("x", "", lit(1)), orderBy(x, false))},
		{"for $x in 1 order by $x descending return 2", flwor(lit(2), forIn("x", "", lit(1)), orderBy(x, true))},
		{"let $x := 1 where $x = 1 order by - $x descending return $x, 2",
			seq(flwor(x, letBe("x", lit(1)), where(binary("=", x, lit(1))), orderBy(minus(x), true)), lit(2))},
		{"for $x in for $y in 1 return $y return $x", flwor(x, forIn("x", "", flwor(y, forIn("y", "", lit(1)))))},
		{"for $x in 1 return for $y in 2 return $y", flwor(flwor(y, forIn("y", "", lit(2))), forIn("x", "", lit(1)))},
		{"let $x := if (1) then 2 else 3 return some $y in $x satisfies $y",
			flwor(quantified(api.Some, "y", x, y), letBe("x", conditional(lit(1), lit(2), lit(3))))},
		{"for $x in (1, 2) return ($x, 3)", flwor(seq(x, lit(3)), forIn("x", "", seq(lit(1), lit(2))))},
		{"for $for in for return return", flwor(child("return"), forIn("for", "", child("for")))},
		{"for", child("for")},
		{"let + for", binary("+", child("let"), child("for"))},
		{"for($x)", call("for", variable("x"))},
	})
	refuse(t, []notParsed{
		{"for $x", 2, short}, {"for $x 1", 2, form}, {"for $x := 1", 2, form}, {"for $x in", 3, short}, {"for $x in 1", 4, short},
		{"for $x in 1 2", 4, form}, {"for $x in 1, 2 return 3", 4, form}, {"for $x in 1 return", 5, short}, {"for $x in 1 return 2 3", 6, form},
		{"for $x in 1 return )", 5, form}, {"for $x in in 1", 4, form}, {"for $x in return", 4, short},
		{"for $x at", 3, short}, {"for $x at i in 1", 3, form}, {"for $x at $i", 4, short}, {"for $x at $i := 1", 4, form}, {"for $x $i", 2, form},
		{"let $x", 2, short}, {"let $x = 1", 2, form}, {"let $x in 1", 2, form}, {"let $x at $i := 1", 2, form}, {"let $x :=", 3, short},
		{"let $x := 1, 2", 4, form}, {"let $x := 1 in 2", 4, form},
		{"for $x in 1 for", 5, short}, {"for $x in 1 for y", 5, form}, {"for $x in 1 let return 2", 5, form}, {"for $x in 1 let $y", 6, short},
		{"for $x in 1, $y in 2 return 3", 4, form},
		{"for $x in 1 where", 5, short}, {"for $x in 1 where 2", 6, short}, {"for $x in 1 where 2 where 3", 6, form},
		{"for $x in 1 where 2 for $y in 3 return 4", 6, form}, {"for $x in 1 where 2 let $y := 3 return 4", 6, form},
		{"for $x in 1 order", 5, short}, {"for $x in 1 order $x return 2", 5, form}, {"for $x in 1 order by", 6, short},
		{"for $x in 1 order by 2", 7, short}, {"for $x in 1 order by 2, 3 return 4", 7, form}, {"for $x in 1 order by 2 ascending return 3", 7, form},
		{"for $x in 1 order by 2 descending", 8, short}, {"for $x in 1 order by 2 descending descending return 3", 8, form},
		{"for $x in 1 order by 2 order by 3 return 4", 7, form}, {"for $x in 1 order by 2 where 3 return 4", 7, form},
		{"for $x in 1 satisfies 2", 4, form}, {"for x in 1 return 2", 1, form}, {"let x := 1", 1, form}, {"for 1", 1, form}, {"where $x", 1, form},
		{"1 + for $x in 1 return 2", 3, form}, {"- let $x := 1 return 2", 2, form}, {"a/for $x in 1 return 2", 3, form},
		{"for $x in 1 return 2 return 3", 6, form},
		{`"for" $x in 1 return 2`, 1, form}, {`for $x "in" 1 return 2`, 2, form},
	})
}

// P5.6: Some, Every and If.
func TestSingles(t *testing.T) {
	x := variable("x")
	parseAll(t, []parsed{
		{"some $x in 1 satisfies $x", quantified(api.Some, "x", lit(1), x)},
		{"every $x in 1 satisfies $x", quantified(api.Every, "x", lit(1), x)},
		{"every $x in 1 satisfies some $y in $x satisfies 2 or 3",
			quantified(api.Every, "x", lit(1), quantified(api.Some, "y", x, binary("or", lit(2), lit(3))))},
		{"some $x in some $y in 1 satisfies 2 satisfies 3", quantified(api.Some, "x", quantified(api.Some, "y", lit(1), lit(2)), lit(3))},
		{"some $x in 1 satisfies 2, 3", seq(quantified(api.Some, "x", lit(1), lit(2)), lit(3))},
		{"some", child("some")},
		{"every/some", path(child("every"), child("some"))},
		{"if (1) then 2 else 3", conditional(lit(1), lit(2), lit(3))},
		{"if (1, 2) then 3 else 4, 5", seq(conditional(seq(lit(1), lit(2)), lit(3), lit(4)), lit(5))},
		{"if (1) then if (2) then 3 else 4 else if (5) then 6 else 7",
			conditional(lit(1), conditional(lit(2), lit(3), lit(4)), conditional(lit(5), lit(6), lit(7)))},
		{"if (()) then () else ()", conditional(seq(), seq(), seq())},
		{"if ((1)) then - 2 else 3 or 4", conditional(lit(1), minus(lit(2)), binary("or", lit(3), lit(4)))},
		{"if (if (1) then 2 else 3) then 4 else 5", conditional(conditional(lit(1), lit(2), lit(3)), lit(4), lit(5))},
		{"if (then) then then else else", conditional(child("then"), child("then"), child("else"))},
		{"if", child("if")},
		{"if/a", path(child("if"), child("a"))},
		{"1 + if (2)", binary("+", lit(1), call("if", lit(2)))},
		{"a/if (2)", path(child("a"), call("if", lit(2)))},
	})
	refuse(t, []notParsed{
		{"some $x", 2, short}, {"some $x := 1", 2, form}, {"some $x at $i in 1 satisfies 2", 2, form}, {"some $x in", 3, short},
		{"some $x in 1", 4, short}, {"some $x in 1 return 2", 4, form}, {"some $x in 1, 2", 4, form}, {"every $x in 1 satisfies", 5, short},
		{"every $x in 1 satisfies 2 3", 6, form}, {"some x in 1 satisfies 2", 1, form}, {"1 or some $x in 1 satisfies 2", 3, form},
		{"some $x in 1 some $y in 2 satisfies 3", 4, form}, {"some $x in 1 where 2 satisfies 3", 4, form},
		{"if (", 2, short}, {"if (1", 3, short}, {"if (1)", 4, short}, {"if (1) then", 5, short}, {"if (1) then 2", 6, short},
		{"if (1) then 2 else", 7, short}, {"if (1) 2", 4, form}, {"if (1) else 2", 4, form}, {"if (1) then 2 3", 6, form},
		{"if (1) then 2, 3 else 4", 6, form}, {"if () then 1 else 2", 2, form}, {"if 1 then 2 else 3", 1, form}, {"if (1) + 2", 4, form},
		{"if (1] then 2 else 3", 3, form}, {"if (1) then 2 else 3 else 4", 8, form}, {"1 + if (2) then 3 else 4", 6, form},
		{"if [", 2, short}, {"(if (1) then 2)", 7, form},
	})
}

// levelsOfOperators: from the loosest ones on.
var levelsOfOperators = [][]string{
	{"or"},
	{"and"},
	{"=", "!=", "<", "<=", ">", ">=", "is", "<<", ">>"},
	{"to"},
	{"+", "-"},
	{"*", "div", "mod"},
	{"|", "union"},
	{"intersect", "except"},
}

// P5.7: each operator by itself, and next to each other one.
func TestOperators(t *testing.T) {
	for i, level := range levelsOfOperators {
		for _, o := range level {
			parseAll(t, []parsed{{"1 " + o + " 2", binary(o, lit(1), lit(2))}})
			refuse(t, []notParsed{{"1 " + o, 2, short}, {"1 " + o + " ]", 2, form}, {"1 " + o + " 2 3", 3, form}, {"1 " + o + " ,", 2, form}})
			for k, other := range levelsOfOperators {
				for _, u := range other {
					both := "1 " + o + " 2 " + u + " 3"
					switch {
					case i == k && (i == 2 || i == 3):
						refuse(t, []notParsed{{both, 3, form}})
					case i < k:
						parseAll(t, []parsed{{both, binary(o, lit(1), binary(u, lit(2), lit(3)))}})
					default:
						parseAll(t, []parsed{{both, binary(u, binary(o, lit(1), lit(2)), lit(3))}})
					}
				}
			}
		}
	}
}

// P5.7: more operators, and how Minus binds.
func TestOperands(t *testing.T) {
	parseAll(t, []parsed{
		{"1 - 2 - 3 + 4", binary("+", binary("-", binary("-", lit(1), lit(2)), lit(3)), lit(4))},
		{"1 = 2 or 3 = 4 and 5 = 6", binary("or", binary("=", lit(1), lit(2)), binary("and", binary("=", lit(3), lit(4)), binary("=", lit(5), lit(6))))},
		{"1 to 2 + 3", binary("to", lit(1), binary("+", lit(2), lit(3)))},
		{"1 to 2 = 3 to 4", binary("=", binary("to", lit(1), lit(2)), binary("to", lit(3), lit(4)))},
		{"(1 = 2) = (3 to 4) to 5", binary("=", binary("=", lit(1), lit(2)), binary("to", binary("to", lit(3), lit(4)), lit(5)))},
		{"1 * (2 + 3)", binary("*", lit(1), binary("+", lit(2), lit(3)))},
		{"(1, 2) = 3", binary("=", seq(lit(1), lit(2)), lit(3))},
		{"- 1", minus(lit(1))},
		{"- - 1", minus(minus(lit(1)))},
		{"1 - - 1", binary("-", lit(1), minus(lit(1)))},
		{"1--1", binary("-", lit(1), minus(lit(1)))},
		{"- 1 + 2", binary("+", minus(lit(1)), lit(2))},
		{"- 1 intersect - 2", binary("intersect", minus(lit(1)), minus(lit(2)))},
		{"- a/b", minus(path(child("a"), child("b")))},
		{"- /a[1]", minus(path(root, filter(child("a"), lit(1))))},
		{"1 except - 2 union 3", binary("union", binary("except", lit(1), minus(lit(2))), lit(3))},
		{"* * *", binary("*", along(api.Child, named), along(api.Child, named))},
		{"or or or", binary("or", child("or"), child("or"))},
		{"div div div mod mod", binary("mod", binary("div", child("div"), child("div")), child("mod"))},
		{"is is is", binary("is", child("is"), child("is"))},
		{"a-b - c", binary("-", child("a-b"), child("c"))},
	})
	refuse(t, []notParsed{
		{"-", 1, short}, {"- -", 2, short}, {"1 - ", 2, short}, {"- )", 1, form}, {"+ 1", 0, form}, {"1 + + 2", 2, form},
		{"a/-b", 2, form}, {"1 = 2 < 3", 3, form}, {"1 to 2 to 3", 3, form}, {"1 is 2 is 3", 3, form}, {"1 = 2 to 3 = 4", 5, form},
		{"1 < - 2 < 3", 4, form}, {"1 and", 2, short}, {"and and", 2, short}, {"/ or 1", 2, form}, {"1 := 2", 1, form}, {"1 :: 2", 1, form},
		{"1 eq 2", 1, form}, {"1 idiv 2", 1, form}, {"1 OR 2", 1, form}, {`1 "or" 2`, 1, form}, {`1 "+" 2`, 1, form}, {"1 $or 2", 1, form},
	})
}
