package query_test

import (
	"reflect"
	"strings"
	"testing"

	"pleacher/api"
	"pleacher/core"
	"pleacher/lift"
	"pleacher/query"
	"pleacher/read"
	"pleacher/run"
	"pleacher/trim"
)

// queries of all sorts, none of which is refused ahead of being run.
var queries = []string{
	"1", "()", "/", "//a", "-7 div 2, 7 mod 0", `"a<b"`, "for $x in 1 return $x + 1",
	"//a[@k]", "/r/*[1]/..", "//a[position() = last()]", "(//a | //b) except //a[1]", "//a/(@k, 1)",
	"for $x at $i in //a let $y := $x/@k where $y > 1 order by $y descending return ($i, $y, $y)",
	"some $x in //a satisfies $x = 1", "every $x in //a satisfies count($x/..) = 1", `if (//b) then true() else "n"`,
	"element e { //@k, 1, 2, //a/text() }", "attribute k { 1 to 3 }", "text { () }",
	"let $x := element e { 1 } return $x is $x", "count(//a) + count(//a)", "reverse(1 to 4)", `substring("abcd", 2, 2)`,
}

// lifted: the plan of a query as it is ahead of being trimmed, or what is refused on the way to it.
func lifted(q string) (api.Plan, api.Errno) {
	tokens, _, e := read.Cut(q)
	if e != api.OK {
		return nil, e
	}
	phrase, _, e := read.Parse(tokens)
	if e != api.OK {
		return nil, e
	}
	expr, e := core.Lower(phrase)
	if e != api.OK {
		return nil, e
	}
	return lift.Lift(expr)
}

// P10.2: a query's plan is that of its expression, trimmed.
func TestPlan(t *testing.T) {
	fewer := 0
	for _, q := range queries {
		long, e := lifted(q)
		if e != api.OK {
			t.Fatalf("%s: %d", q, e)
		}
		want, _ := trim.Trim(long)
		got, e := query.Plan(q)
		if e != api.OK || !reflect.DeepEqual(got, want) {
			t.Errorf("%s: %v %d, want %v", q, got, e, want)
		}
		if _, e := run.Columns(got); e != api.OK {
			t.Errorf("%s: Columns tells %d", q, e)
		}
		if len(got) < len(long) {
			fewer++
		}
	}
	if fewer < len(queries)/2 {
		t.Errorf("only %d plans have fewer ops", fewer)
	}
}

// refusals: queries that are refused, with the error of the first layer that does.
var refusals = []struct {
	what, q string
	want    api.Errno
}{
	{"too many bytes", strings.Repeat(" ", api.MaxQuery) + "1", api.ErrSize},
	{"too many bytes ahead of all else", "#" + strings.Repeat("$", api.MaxQuery), api.ErrSize},
	{"too many tokens", strings.Repeat("1,", api.MaxTokens/2) + "1", api.ErrSize},
	{"too long a word", strings.Repeat("a", api.MaxName+1), api.ErrName},
	{"a variable without a name", "$ x", api.ErrName},
	{"too great a number", "1099511627777", api.ErrRange},
	{"a text without an end", `concat("a, "b")`, api.ErrShort},
	{"a text that may not be", "\"\xff\"", api.ErrForm},
	{"no token", "1 # 2", api.ErrForm},
	{"no token, behind what can't stand there", ") #", api.ErrForm},
	{"too great a number, behind what can't stand there", ") 1099511627777", api.ErrRange},
	{"nothing", "", api.ErrShort},
	{"blanks", " \n\t", api.ErrShort},
	{"what ends too early", "1 +", api.ErrShort},
	{"what can't stand there", "1 + )", api.ErrForm},
	{"something behind all", "1 1", api.ErrForm},
	{"no such axis", "/sideways::a", api.ErrNone},
	{"too deep", strings.Repeat("(", api.MaxNest/3) + "1" + strings.Repeat(")", api.MaxNest/3), api.ErrDeep},
	{"what ends too early, behind no such variable", "$x +", api.ErrShort},
	{"no such variable", "$x", api.ErrNone},
	{"no such variable any more", "(for $x in 1 return $x), $x", api.ErrNone},
	{"a dot without a node", ".", api.ErrNone},
	{"a step from nowhere", "a/b", api.ErrNone},
	{"a place in nothing", "position()", api.ErrNone},
	{"no such function", "f(1)", api.ErrNone},
	{"a function of the core alone", "ddo(/)", api.ErrNone},
	{"too few arguments", "count()", api.ErrCount},
	{"too many arguments", "true(1)", api.ErrCount},
	{"no such function ahead of too few arguments within it", "f(count())", api.ErrNone},
	{"two loops, and an order", "for $x in 1 for $y in 1 order by 1 return 1", api.ErrForm},
	{"one name twice", "for $x at $x in 1 return 1", api.ErrTwice},
	{"too long a name of an element", "element " + strings.Repeat("e", api.MaxName) + "e { }", api.ErrName},
	{"too many loops", strings.Repeat("for $x in 1 ", api.MaxLoops+1) + "return 1", api.ErrSize},
	{"too many constructors", strings.TrimSuffix(strings.Repeat("text { 1 }, ", api.MaxMakes+1), ", "), api.ErrSize},
	{"too many loops, and no such variable", strings.Repeat("for $x in 1 ", api.MaxLoops+1) + "return $y", api.ErrNone},
}

// P10.2: what is refused on the way.
func TestPlanRefused(t *testing.T) {
	for _, c := range refusals {
		if got, e := query.Plan(c.q); len(got) > 0 || e != c.want {
			t.Errorf("%s: %d ops, %d, want %d", c.what, len(got), e, c.want)
		}
		if _, e := lifted(c.q); e != c.want {
			t.Errorf("%s: layer by layer %d, want %d", c.what, e, c.want)
		}
	}
}

// P10.2: as much as may be is not refused.
func TestPlanGreat(t *testing.T) {
	for _, q := range []string{
		strings.Repeat(" ", api.MaxQuery-1) + "1",
		strings.Repeat("1,", api.MaxTokens/2-1) + "1",
		strings.Repeat("for $x in 1 ", api.MaxLoops) + "return 1",
		strings.TrimSuffix(strings.Repeat("text { 1 }, ", api.MaxMakes), ", "),
		strings.Repeat("(", api.MaxNest/3-1) + "1" + strings.Repeat(")", api.MaxNest/3-1), // a list, a single and a step each
		"element " + strings.Repeat("e", api.MaxName) + " { }",
	} {
		if got, e := query.Plan(q); len(got) == 0 || e != api.OK {
			t.Errorf("%s: %d ops, %d", q, len(got), e)
		}
	}
}

// Answers hang on the query alone, and share no memory: one that is written over leaves the next one as it should be.
func TestPlansAreNew(t *testing.T) {
	for _, q := range []string{`for $x in //a order by $x return ($x, "x")`, "1 to 3", "element e { /r/@k }"} {
		first, _ := query.Plan(q)
		want, _ := query.Plan(q)
		for i := range first {
			overwrite(&first[i])
		}
		for i := range first[:cap(first)] {
			first[:cap(first)][i] = api.Op{Kind: -7}
		}
		if got, e := query.Plan(q); e != api.OK || !reflect.DeepEqual(got, want) {
			t.Errorf("%s: %v %d, want %v", q, got, e, want)
		}
	}
}

func overwrite(op *api.Op) {
	for _, l := range [][]string{op.Cols, op.Olds, op.Rel.Cols} {
		for i := range l {
			l[i] = "over"
		}
	}
	for i := range op.In {
		op.In[i] = -7
	}
	for _, row := range op.Rel.Rows {
		for i := range row {
			row[i] = text("over")
		}
	}
}
