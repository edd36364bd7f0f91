package lift_test

import (
	"slices"
	"strings"
	"testing"

	"pleacher/api"
)

// P8.4: a Step from nodes, all of an iteration at once.
func TestSteps(t *testing.T) {
	means(t, abc,
		`/r`, `#1`,
		`/r/*`, `#3 #5`,
		`//a`, `#3 #7`,
		`//a/text()`, `#4 #8`,
		`//@k`, `#2 #6`,
		`//comment()`, `#9`,
		`//node()`, `#1 #3 #4 #5 #7 #8 #9`,
		`//a/..`, `#1 #5`,
		`//a/ancestor::*`, `#1 #5`,
		`//a/ancestor-or-self::node()`, `#0 #1 #3 #5 #7`,
		`/r/b/preceding-sibling::node()`, `#3`,
		`/r/a/following-sibling::node()`, `#5 #9`,
		`//a/following::a`, `#7`,
		`/r/b/a/preceding::node()`, `#3 #4`,
		`//z/a`, ``,
		`()/a`, ``,
		`(//b, //a, //b)/self::*`, `#3 #5 #7`,
		`for $x in (//b, /r) return $x/a`, `#7 #3`,
		`for $x in (//a, //b) return ($x/.., 0, $x/@k)`, `#1 0 #5 0 #1 0 #6`,
		`1/a`, `!12`,
		`(//a, 1)/a`, `!12`,
		`(1, //a)/a`, `!12`,
		`for $x in (/, "x") return $x/r`, `!12`,
		`for $x in (/, "x") return if ($x = "x") then () else $x/r`, `#1`,
	)
	for _, kind := range []int{api.AnyNode, api.TextTest, api.CommTest, api.AnyNamed} {
		x := step(api.Child, kind, "a", step(api.Child, api.AnyNamed, "", root()))
		want := map[int]string{api.AnyNode: "#3 #5 #9", api.TextTest: "", api.CommTest: "#9", api.AnyNamed: "#3 #5"}[kind]
		exprMeans(t, abc, "a test without a name", x, want)
	}
}

// P8.4: a Make makes a node in each iteration, one by one, with the items as content.
func TestMakes(t *testing.T) {
	means(t, abc,
		`element e { 1, 2 }`, `#10`,
		`element e { }`, `#10`,
		`text { 1, "x" }`, `#10`,
		`text { () }`, ``,
		`text { "" }`, `#10`,
		`attribute k { () }`, `#10`,
		`attribute k { 1 }, text { 2 }`, `#10 #11`,
		`for $x in (1, 2) return text { $x }`, `#10 #11`,
		`for $x in (1, 2, 3) return text { if ($x = 2) then () else $x }`, `#10 #11`,
		`for $x in //a return element e { $x/text(), $x }`, `#10 #14`,
		`string(element e { 1, 2, text { 3 }, 4, //a })`, `"1 23412"`,
		`let $e := element e { //b/@k, 1 } return ($e/@k, $e/text(), $e/.., string($e))`, `#11 #12 "1"`,
		`count((element e { 1 }, element e { 1 }) | ())`, `2`,
		`element e { //b, //a } / * / a / text()`, `#14`,
		`element e { / }`, `!12`,
		`element e { 1, //@k }`, `!12`,
		`element e { /r/@k, //b/@k }`, `!12`,
		`for $x in (1, 2) return element e { if ($x = 2) then (1, //b/@k) else //b/@k }`, `!12`,
	)
	long := s(strings.Repeat("x", api.MaxText))
	exprMeans(t, abc, "as long as may be", call("length", made(api.Attr, "k", long)), "20000")
	exprMeans(t, abc, "too long a value", made(api.Attr, "k", seq(long, s(""))), "!12")
	exprMeans(t, abc, "too long a text", made(api.Elem, "k", seq(long, s(""))), "!12")
	exprMeans(t, abc, "the Name of a Text", call("name", made(api.Text, "no name <", n(1))), `""`)
}

// P8.4: nodes are made in the order of the iterations, behind all.
func TestMade(t *testing.T) {
	for _, c := range []struct {
		query string
		want  string // the names and values of all nodes that are made
	}{
		{`for $x in (3, 1, 2) return element e { $x }`, "e 3 e 1 e 2"},
		{`for $x in (1, 2) return for $y in (5, 4) return attribute k { $x, $y }`, "k=1 5 k=1 4 k=2 5 k=2 4"},
		{`for $x in reverse((1, 2, 3)) return text { $x }`, "3 2 1"},
		{`for $x in (1, 2, 3, 4) return if ($x mod 2 = 1) then text { "odd", $x } else text { "even", $x }`, "odd 1 odd 3 even 2 even 4"},
		{`for $x in (1, 2) return element e { attribute k { $x }, element f { } }`, "k=1 k=2 f f e k=1 f e k=2 f"},
		{`let $e := element e { "x" } return for $x in (1, 2) return element f { $e, $e }`, "e x f e x e x f e x e x"},
		{`for $x at $i in (7, 5, 6) order by $x descending return text { $x, $i }`, "7 1 5 2 6 3"},
		{`let $x := text { "unused" } return 1`, "unused"},
		{`for $x in () return text { 1 }`, ""},
	} {
		l := shred(t, abc)
		_, after, e := told(t, lower(t, c.query), l)
		var all []string
		for _, x := range after[min(len(l), len(after)):] {
			switch {
			case x.Kind == api.Attr:
				all = append(all, x.Name+"="+x.Value)
			default:
				all = append(all, x.Name+x.Value)
			}
		}
		if got := strings.Join(all, " "); e != api.OK || got != c.want || !slices.Equal(after[:len(l)], l) {
			t.Errorf("%s: %s %d, want %s", c.query, got, e, c.want)
		}
	}
}

// P8.7: nodes by their places, each once.
func TestSets(t *testing.T) {
	means(t, abc,
		`(//a, /) | (//b, //a)`, `#0 #3 #5 #7`,
		`//a union ()`, `#3 #7`,
		`() | ()`, ``,
		`(//b, //a, //b) intersect (//a, //a)`, `#3 #7`,
		`//a intersect //b`, ``,
		`//* intersect (//b, //b)`, `#5`,
		`(//b, /r, //a, /r) except //a`, `#1 #5`,
		`//a except ()`, `#3 #7`,
		`() except //a`, ``,
		`//a except //a`, ``,
		`for $x in //* return (0, $x/* union $x/@*)`, `0 #2 #3 #5 0 0 #6 #7 0`,
		`for $x in //* return (0, //a intersect $x/a)`, `0 #3 0 0 #7 0`,
		`for $x in //* return (0, //a except $x/a)`, `0 #7 0 #3 #7 0 #3 0 #3 #7`,
		`//a | 1`, `!12`,
		`1 | //a`, `!12`,
		`() | "x"`, `!12`,
		`//a intersect (//a, 1)`, `!12`,
		`(//a, 1) intersect //a`, `!12`,
		`() intersect 1`, `!12`,
		`1 intersect ()`, `!12`,
		`//a except 1`, `!12`,
		`() except 1`, `!12`,
		`1 except 1`, `!12`,
	)
	nodes := step(api.Descendant, api.AnyNamed, "", root())
	exprMeans(t, abc, "ddo", call("ddo", seq(call("reverse", nodes), root(), nodes)), "#0 #1 #3 #5 #7")
	exprMeans(t, abc, "ddo of nothing", call("ddo", seq()), "")
	exprMeans(t, abc, "ddo of a number", call("ddo", n(1)), "!12")
	exprMeans(t, abc, "ddo of a node and a text", call("ddo", seq(root(), s("x"))), "!12")
	exprMeans(t, abc, "ddo in iterations", loop("x", "", nodes, call("ddo", seq(v("x"), root(), v("x")))), "#0 #1 #0 #3 #0 #5 #0 #7")
}
