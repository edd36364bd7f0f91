package lift_test

import (
	"strings"
	"testing"

	"pleacher/api"
)

// P8.5: how many items, and whether there are some.
func TestCounts(t *testing.T) {
	means(t, abc,
		`count(())`, `0`,
		`count((1, 1, //a))`, `4`,
		`empty(())`, `true`,
		`empty((0, 1))`, `false`,
		`exists(())`, `false`,
		`exists(false())`, `true`,
		`for $x in (2, 0, 1) return (count(1 to $x), empty(1 to $x), exists(1 to $x))`, `2 false true 0 true false 1 false true`,
		`for $x in //node() return count($x/node())`, `3 1 0 1 1 0 0`,
	)
}

// P8.5: a sequence is true, or not; or that has no value.
func TestTruths(t *testing.T) {
	means(t, abc,
		`boolean(())`, `false`,
		`boolean(0)`, `false`,
		`boolean(0 - 3)`, `true`,
		`boolean("")`, `false`,
		`boolean("0")`, `true`,
		`boolean(false())`, `false`,
		`boolean(true())`, `true`,
		`boolean(//comment())`, `true`,
		`boolean((//a, 1, ""))`, `true`,
		`boolean((/, /))`, `true`,
		`boolean((1, /))`, `!12`,
		`boolean((true(), true()))`, `!12`,
		`boolean(("", ""))`, `!12`,
		`boolean(reverse((1, /)))`, `true`,
		`not(())`, `true`,
		`not(//a)`, `false`,
		`not(0)`, `true`,
		`not((0, 0))`, `!12`,
		`1 and "x"`, `true`,
		`1 and ()`, `false`,
		`() and ()`, `false`,
		`//a and //b`, `true`,
		`() or 0`, `false`,
		`() or //a`, `true`,
		`"x" or ()`, `true`,
		`() and (1, 2)`, `!12`,
		`(1, 2) and ()`, `!12`,
		`1 or (1, 2)`, `!12`,
		`1 or 1 div 0`, `!12`,
		`0 and 1 div 0`, `!12`,
		`for $x in (0, 1) return for $y in (0, 1) return ($x and $y, $x or $y)`, `false false false true false true true true`,
		`for $x in (0, "", 2, "x", false(), //a) return (boolean($x), not($x))`, `false true false true true false true false false true true false true false`,
	)
}

// P8.6: what is made of all items of a sequence.
func TestAggregates(t *testing.T) {
	means(t, abc,
		`sum(())`, `0`,
		`sum((1, 2, 3))`, `6`,
		`sum((1, "2", true(), false(), //a))`, `7`,
		`sum(//@k)`, `5`,
		`sum("x")`, `!12`,
		`sum((1, ""))`, `!12`,
		`min(())`, ``,
		`max(())`, ``,
		`min((3, "1", 2))`, `1`,
		`max((3, "11", 2))`, `11`,
		`max((0 - 3, 0 - 4)), min((0 - 3, 0 - 4))`, `-3 -4`,
		`min(true()), max((false(), "-5"))`, `1 0`,
		`max((1, "x"))`, `!12`,
		`min(/)`, `12`,
		`min("")`, `!12`,
		`for $x in (2, 0, 1) return (sum(1 to $x), min($x to 3), 9, max($x to 1))`, `3 2 9 0 0 9 1 1 1 9 1`,
	)
	most, least := n(api.MaxInt), n(-api.MaxInt)
	exprMeans(t, abc, "a sum as great as may be", call("sum", seq(most, n(-1), n(1))), "1099511627776")
	exprMeans(t, abc, "a sum goes beyond on its way", call("sum", seq(most, n(1), n(-1))), "!12")
	exprMeans(t, abc, "a sum goes beyond on its way, but is turned round", call("sum", call("reverse", seq(n(-1), n(1), n(-1), most))), "1099511627775")
	exprMeans(t, abc, "a sum turned round goes beyond", call("sum", call("reverse", seq(n(-1), n(1), most))), "!12")
	exprMeans(t, abc, "a sum below", call("sum", seq(least, n(1), n(-2))), "!12")
	exprMeans(t, abc, "sums in iterations", loop("x", "", seq(n(-1), n(1)), call("sum", seq(call("*", v("x"), most), call("neg", v("x")), v("x")))), "-1099511627776 1099511627776")
}

// P8.6: data, distinct and reverse.
func TestData(t *testing.T) {
	means(t, abc,
		`data(())`, ``,
		`data((1, "x", true(), //a, //@k, /))`, `1 "x" true "1" "2" "3" "2" "12"`,
		`data((//comment(), //a/text()))`, `"c" "1" "2"`,
		`distinct-values(())`, ``,
		`distinct-values((2, 1, 2, "1", 1, true(), "1", 2))`, `2 1 "1" true`,
		`distinct-values((//a, "2", "0", /r/a))`, `"1" "2" "0"`,
		`distinct-values(reverse((2, 1, 2, 3)))`, `3 2 1`,
		`for $x in (1, 2) return distinct-values((2, $x, 2, 1))`, `2 1 2 1`,
		`reverse(())`, ``,
		`reverse((1, "x", /))`, `#0 "x" 1`,
		`reverse((reverse((1, 2)), 3))`, `3 1 2`,
		`(reverse((1, 2, 3)), 4)`, `3 2 1 4`,
		`reverse(//a)`, `#7 #3`,
		`for $x in (1, 2) return reverse(($x, 5, $x))`, `1 5 1 2 5 2`,
		`reverse(for $x in (1, 2) return ($x, 5))`, `5 2 5 1`,
	)
}

// P8.8: functions that have a value of nothing, too.
func TestOfNone(t *testing.T) {
	means(t, abc,
		`string(()), name(()), string-length(())`, `"" "" 0`,
		`string(12), string(0 - 1), string("x"), string(true()), string(/), string(//@k[. = 2])`, `"12" "-1" "x" "true" "12" "2"`,
		`name(/r), name(//b/@k), name(/), name(//comment())`, `"r" "k" "" ""`,
		`name("r")`, `!12`,
		`string-length("é1"), string-length(false()), string-length(/)`, `2 5 2`,
		`string((1, 2))`, `!12`,
		`string(//a)`, `!12`,
		`name(//a)`, `!12`,
		`string-length(("", ""))`, `!12`,
		`for $x in (0, 1, 2) return (string((1 to 1)[. = $x]), 9)`, `"" 9 "1" 9 "" 9`,
		`for $x in //node() return name($x)`, `"r" "a" "" "b" "a" "" ""`,
		`for $x in ((), 3) return string-length($x)`, `1`,
	)
}

// P8.8: functions that have nothing, if an argument has none.
func TestOfOnes(t *testing.T) {
	means(t, abc,
		`integer("12"), integer(true()), integer(//b/@k), integer(0 - 3)`, `12 1 2 -3`,
		`integer(())`, ``,
		`integer("x")`, `!12`,
		`integer(" 1")`, `!12`,
		`integer((1, 1))`, `!12`,
		`-(3), -("4"), -(//b)`, `-3 -4 -2`,
		`-()`, ``,
		`-("x")`, `!12`,
		`-(1, 2)`, `!12`,
		`1 + 2, 1 - 2, 3 * "4", 7 div 2, 7 mod 2, -7 div 2, -7 mod 2`, `3 -1 12 3 1 -3 -1`,
		`1 + (), () + 1, () * (), "x" - (), () div 0`, ``,
		`() + (1, 2)`, `!12`,
		`(1, 2) + ()`, `!12`,
		`1 + "x"`, `!12`,
		`"x" mod 1`, `!12`,
		`1 div 0`, `!12`,
		`1 mod 0`, `!12`,
		`1099511627776 + 1`, `!12`,
		`1099511627776 * 2`, `!12`,
		`-1099511627776 - 1`, `!12`,
		`/r is /r, /r is /r/a/.., //b is /r, /r << //b, //b << /r, /r >> //b, //b >> /r, /r << /r`, `true true false true false false true false`,
		`/r is (), () << 1, "x" >> ()`, ``,
		`1 is 1`, `!12`,
		`/r << 1`, `!12`,
		`"x" >> /r`, `!12`,
		`//a is /r`, `!12`,
		`/r << //a`, `!12`,
		`() is //a`, `!12`,
		`for $x in (1, 2, 3) return for $y in (if ($x = 2) then () else $x, 10) return ($x + (if ($y = 10) then () else $y), 0)`, `2 0 0 0 6 0 0`,
	)
}

// P8.8: functions of strings.
func TestOfStrings(t *testing.T) {
	long := s(strings.Repeat("é", api.MaxText/2))
	means(t, abc,
		`concat("a", "b"), concat((), "b"), concat("a", ()), concat((), ()), concat(1, true()), concat(/, //b/@k)`, `"ab" "b" "a" "" "1true" "122"`,
		`concat(("a", "b"), "c")`, `!12`,
		`concat((), (1, 2))`, `!12`,
		`contains("abc", "b"), contains("abc", "d"), contains("abc", ()), contains((), ()), contains((), "a"), contains(212, 1)`, `true false true true false true`,
		`contains((1, 2), 1)`, `!12`,
		`contains(1, //a)`, `!12`,
		`starts-with("abc", "ab"), starts-with("abc", "b"), starts-with("abc", ()), starts-with((), "a"), starts-with(//b, 2)`, `true false true false true`,
		`starts-with((), (1, 2))`, `!12`,
		`substring("abcd", 2, 2), substring("éa", 2, 9), substring("abc", 0, 2), substring("abc", 2, 0 - 1), substring(123, "2", true())`, `"bc" "a" "a" "" "2"`,
		`substring((), 1, 2)`, `""`,
		`substring("abc", (), 2)`, ``,
		`substring("abc", 1, ())`, ``,
		`substring((), (), ())`, ``,
		`substring("abc", "x", ())`, ``,
		`substring("abc", "x", 1)`, `!12`,
		`substring("abc", 1, "")`, `!12`,
		`substring(("a", "b"), 1, ())`, `!12`,
		`substring("a", (1, 2), ())`, `!12`,
		`substring("a", (), (1, 2))`, `!12`,
		`for $x in ("ab", "b", "") return (concat($x, "!"), contains($x, "b"), substring($x, 1, 1))`, `"ab!" true "a" "b!" true "b" "!" false ""`,
	)
	exprMeans(t, abc, "as long as may be", call("length", call("concat", long, seq())), "10000")
	exprMeans(t, abc, "too long", call("concat", long, s("x")), "!12")
}

// P8.8: the numbers from one to another.
func TestTo(t *testing.T) {
	means(t, abc,
		`1 to 3`, `1 2 3`,
		`3 to 3`, `3`,
		`3 to 1`, ``,
		`-1 to 1`, `-1 0 1`,
		`"1" to //b`, `1 2`,
		`true() to 2`, `1 2`,
		`() to 3, 3 to (), () to "x", "x" to ()`, ``,
		`count(1 to 20), max(1 to 20)`, `20 20`,
		`1 to 21`, `!12`,
		`"x" to 1`, `!12`,
		`1 to "x"`, `!12`,
		`(1, 2) to ()`, `!12`,
		`() to (1, 2)`, `!12`,
		`1099511627776 to 1099511627776`, `1099511627776`,
		`1099511627775 to 1099511627776`, `1099511627775 1099511627776`,
		`-1099511627776 to -1099511627775`, `-1099511627776 -1099511627775`,
		`-1099511627776 to 1099511627776`, `!12`,
		`1099511627776 to -1099511627776`, ``,
		`for $x in (1, 3, 0) return ("x", 2 to $x)`, `"x" "x" 2 3 "x"`,
		`reverse(1 to 3), 0`, `3 2 1 0`,
	)
}

// P8.8: whether a predicate holds at a place.
func TestHolds(t *testing.T) {
	for _, c := range []struct {
		x, place api.Expr
		want     string
	}{
		{n(2), n(2), "true"}, {n(2), n(1), "false"}, {n(0), n(0), "true"}, {n(1), n(2), "false"},
		{s("x"), n(1), "true"}, {s(""), n(1), "false"}, {s("2"), n(1), "true"},
		{lit(truth(true)), n(7), "true"}, {lit(truth(false)), n(7), "false"}, {root(), n(7), "true"},
		{seq(), n(1), "false"}, {n(1), seq(), "false"}, {seq(), seq(), "false"}, {seq(n(1), n(2)), seq(), "false"}, {s("x"), seq(), "false"},
		{seq(root(), n(2)), n(1), "true"}, {seq(n(1), n(1)), n(1), "!12"}, {seq(n(1), root()), n(1), "!12"}, {seq(s("x"), s("")), n(1), "!12"},
		{n(1), seq(n(1), n(1)), "!12"}, {seq(), seq(n(1), n(1)), "!12"}, {n(1), s("1"), "!12"}, {call("reverse", seq(n(2), root())), n(1), "true"},
	} {
		exprMeans(t, abc, shown(list{c.x.Item, c.place.Item}, api.OK), call("holds", c.x, c.place), c.want)
	}
	means(t, abc,
		`(5, 6, 7)[2]`, `6`,
		`(5, 6, 7)[. > 5]`, `6 7`,
		`(5, 6, 7)[position() > 1][1]`, `6`,
		`(5, 6, 7)[last()], (5, 6)[3], (5, 6)[()], (5, 6)["x"]`, `7 5 6`,
		`//a[1]`, `#3 #7`,
		`(//a)[1], (//a)[last()]`, `#3 #7`,
		`//*[a[. = 2]]`, `#5`,
		`//*[@k > 2 or . = 1]/name(.)`, `!12`,
		`for $x in //* return $x/node()[last()]`, `#9 #4 #7 #8`,
	)
}

// P8.8: whether some item of one sequence and some one of another are so.
func TestComparisons(t *testing.T) {
	means(t, abc,
		`1 = 1, 1 != 1, 1 < 2, 2 <= 1, 2 > 1, 1 >= 2`, `true false true false true false`,
		`(1, 2) = (2, 3), (1, 2) = (3, 4), (1, 2) != (1, 2), (1, 1) != 1, (5, 1) < (0, 2), (1, 2) > (2, 3)`, `true false true false true false`,
		`() = (), () != (), 1 = (), () != 1, (1, 2) < ()`, `false false false false false`,
		`1 = "1", "01" = 1, "1" = 1, 1 != "x", 1 < "x", true() = 1, true() != "true", "b" > "a"`, `true false true true false false true true`,
		`//a = 2, //a = "1", //a != //a, //a = //@k, //@k > 2, / = "12"`, `true true true true true true`,
		`false() < true(), true() <= true()`, `true true`,
		`//a[. = //@k], //a[. < //@k]`, `#7 #3 #7`,
		`for $x in (1, 2, 3) return ($x = (3, 1), $x < (2, 1), $x != $x)`, `true true false false false false true false false`,
		`(1, 1 div 0) = 1`, `!12`,
		`some $x in (1, 2) satisfies $x = 2, every $x in (1, 2) satisfies $x = 2`, `true false`,
	)
}
