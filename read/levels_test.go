package read_test

import (
	"slices"
	"strings"
	"testing"

	"pleacher/api"
	"pleacher/read"
)

// nested: a query with so many of one part within another one.
func nested(n int, before, inner, after string) string {
	return strings.Repeat(before, n) + inner + strings.Repeat(after, n)
}

// P5.8: of each part, as many within one another as may be, and one more.
func TestLevels(t *testing.T) {
	for _, c := range []struct {
		before, inner, after string
		most                 int // how many may be
		at                   int // where one more is told; 0: there would be too many tokens
	}{
		{"(", "1", ")", 9, 10},                         // list, single, step each
		{"a[", "1", "]", 9, 20},                        // a predicate belongs to its step
		{"-", "1", "", 27, 28},                         // Minus each, and a step
		{"-", "a/b/c", "", 27, 28},                     //
		{"-", "/", "", 28, 28},                         // the Root is no step
		{"f(", "1", ")", 13, 28},                       // single, step each
		{"f(", "", ")", 14, 28},                        // without a single within the last one
		{"f(1,", "2", ")", 13, 13*4 + 2},               // the first single within the last one
		{"text{", "1", "}", 9, 20},                     // list, single, step each
		{"text{", "", "}", 10, 20},                     // without a list within the last one
		{"element e{", "1", "}", 9, 30},                //
		{"attribute k{", "1", "}", 9, 30},              //
		{"for $x in ", "1", " return 2", 27, 84},       // single each
		{"for $x in 1 return ", "2", "", 27, 27*5 + 3}, // the value of the last one
		{"let $x := ", "1", " return 2", 27, 84},       //
		{"let $x := 1 where ", "2", " return 3", 27, 27*5 + 3},
		{"let $x := 1 order by ", "2", " return 3", 24, 0},
		{"some $x in ", "1", " satisfies 2", 27, 84},
		{"every $x in 1 satisfies ", "2", "", 27, 27*5 + 3},
		{"if (", "1", ") then 2 else 3", 13, 28}, // list, single each
		{"if (1) then ", "2", " else 3", 26, 26*5 + 2},
		{"if (1) then 2 else ", "3", "", 26, 26*7 + 2},
		{"(-", "1", ")", 6, 14},
	} {
		s := nested(c.most, c.before, c.inner, c.after)
		if _, at, e := read.Parse(cutOf(t, s)); at != 0 || e != api.OK {
			t.Errorf("%d of %q: %d at %d", c.most, c.before, e, at)
		}
		if c.at > 0 {
			refuse(t, []notParsed{{nested(c.most+1, c.before, c.inner, c.after), c.at, deep}})
		}
	}
}

// P5.8: levels are left where they end: as many as may stand side by side do.
func TestLevelsAreLeft(t *testing.T) {
	for _, s := range []string{
		"1" + strings.Repeat(", 1", 99),
		"1" + strings.Repeat("+1", 99),
		"a" + strings.Repeat("/a", 99),
		"//a" + strings.Repeat("//a", 98),
		"a" + strings.Repeat("[1]", 66),
		"(1)" + strings.Repeat("+(1)", 49),
		"-1" + strings.Repeat("--1", 66),
		"f(1" + strings.Repeat(",1", 98) + ")",
		"text{1}" + strings.Repeat(",text{1}", 39),
		strings.Repeat("let $x := 1 ", 49) + "return 2",
		"if (1) then 2 else 3" + strings.Repeat(", if (1) then 2 else 3", 21),
		nested(9, "(", "1", ")") + strings.Repeat(", "+nested(8, "(", "1", ")"), 10),
	} {
		if _, at, e := read.Parse(cutOf(t, s)); at != 0 || e != api.OK {
			t.Errorf("Parse(%q): %d at %d", s, e, at)
		}
	}
}

// P5.8: all that goes too deep, of tokens as many as there may be.
func TestTooDeep(t *testing.T) {
	for _, c := range []struct {
		l  []api.Token
		at int
	}{
		{slices.Repeat(tokens(mark("(")), api.MaxTokens), 10},
		{slices.Repeat(tokens(mark("-")), api.MaxTokens), 28},
		{slices.Repeat(tokens(word("a"), mark("[")), api.MaxTokens/2), 20},
		{slices.Repeat(tokens(word("f"), mark("(")), api.MaxTokens/2), 28},
		{slices.Repeat(tokens(word("text"), mark("{")), api.MaxTokens/2), 20},
		{slices.Repeat(tokens(word("if"), mark("(")), api.MaxTokens/2), 30},
		{slices.Repeat(tokens(mark("-"), mark("(")), api.MaxTokens/2), 14},
	} {
		refuseTokens(t, c.l, c.at, deep)
		refuseTokens(t, append(tokens(mark(")")), c.l[1:]...), 0, form)
	}
}

// P5.8: where a part would be too deep, but does not begin, what is missing is told, as anywhere else.
func TestDeepOrMissing(t *testing.T) {
	parens, minuses, calls := strings.Repeat("(", 10), strings.Repeat("-", 28), strings.Repeat("f(", 14)
	refuse(t, []notParsed{
		{parens, 10, short}, {parens + "]", 10, form}, {parens + ",", 10, form}, {parens + "+1", 10, form}, {parens + "=", 10, form},
		{parens + "1", 10, deep}, {parens + "-", 10, deep}, {parens + "/", 10, deep}, {parens + "//", 10, deep}, {parens + "..", 10, deep},
		{parens + ".", 10, deep}, {parens + "@", 10, deep}, {parens + "*", 10, deep}, {parens + "(", 10, deep}, {parens + "$x", 10, deep},
		{parens + `""`, 10, deep}, {parens + "a", 10, deep}, {parens + "x::a", 10, deep}, {parens + ")", 11, short}, {parens + ")]", 11, form},
		{minuses, 28, short}, {minuses + "]", 28, form}, {minuses + "+", 28, form}, {minuses + "x::a", 28, deep}, {minuses + "a", 28, deep},
		{minuses + "-", 28, deep}, {minuses + "..", 28, deep}, {minuses + "/a", 29, deep}, {minuses + "/1", 29, deep}, {minuses + "/]", 29, form},
		{minuses + "//a", 29, deep}, {minuses + "//", 29, short}, {minuses + "//]", 29, form}, {minuses + "//-1", 29, form},
		{minuses + "///", 29, form}, {minuses + "/ = 1 2", 31, form},
		{calls, 28, short}, {calls + "]", 28, form}, {calls + ",", 28, form}, {calls + "-", 28, deep}, {calls + "1", 28, deep},
		{strings.Repeat("a[", 10), 20, short}, {strings.Repeat("a[", 10) + "]", 20, form}, {strings.Repeat("a[", 10) + "@", 20, deep},
	})
}
