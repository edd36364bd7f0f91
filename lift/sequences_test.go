package lift_test

import (
	"slices"
	"testing"

	"pleacher/api"
)

// abc: a document: the Doc at 0, r at 1, its k at 2, a at 3, its text at 4, b at 5, its k at 6, a at 7, its text at 8, a comment at 9.
const abc = `<r k="3"><a>1</a><b k="2"><a>2</a></b><!--c--></r>`

// P8.2: a Lit has its Item, a Var the sequence that it was given, a Root the node 0, a Seq the items of its arguments.
func TestSequences(t *testing.T) {
	means(t, abc,
		`1`, `1`,
		`"x"`, `"x"`,
		`""`, `""`,
		`true(), false()`, `true false`,
		`()`, ``,
		`((), ())`, ``,
		`/`, `#0`,
		`1, "1", 1`, `1 "1" 1`,
		`3, (2, (), 1), /, (1, 2), ()`, `3 2 1 #0 1 2`,
		`let $x := (3, 1, 2) return ($x, 0, $x)`, `3 1 2 0 3 1 2`,
		`let $x := () return ($x, $x)`, ``,
		`let $x := 1 return 2`, `2`,
		`let $x := 1 return let $y := ($x, 2) return let $x := ($y, 3) return ($x, $y)`, `1 2 3 1 2`,
		`let $x := (let $x := 1 return ($x, 2)) return ($x, $x)`, `1 2 1 2`,
	)
}

// P8.2: what is the node 0 need be no document.
func TestRootOfOtherNodes(t *testing.T) {
	l := []api.Node{{Kind: api.Attr, Name: "k", Value: "7", Parent: -1}, {Kind: api.Text, Value: "x", Parent: -1}}
	for _, c := range []struct {
		x    api.Expr
		want string
	}{{root(), "#0"}, {call("string", root()), `"7"`}, {step(api.Self, api.AnyNode, "", root()), "#0"}, {step(api.Following, api.AnyNode, "", root()), ""}} {
		items, after, e := told(t, c.x, l)
		if got := shown(items, e); got != c.want || !slices.Equal(after, l) {
			t.Errorf("%v: %s %v, want %s", c.x, got, after, c.want)
		}
	}
}

// P8.2: a name that is given again hides the one that there was in its scope, and there alone.
func TestHidden(t *testing.T) {
	means(t, abc,
		`let $x := 1 return if (1) then (let $x := ($x, 2) return $x) else ()`, `1 2`,
		`let $x := 1 return if (1) then ((let $x := 2 return $x), $x) else ()`, `2 1`,
		`let $x := 1 return if (0) then () else ((for $x in (5, 6) return $x), $x)`, `5 6 1`,
		`let $x := 1 return for $y in (7, 8) return ((for $x in ($x, $y) return $x), $x)`, `1 7 1 1 8 1`,
		`let $x := 1 return for $y in (7, 8) return ((for $z at $x in ($x, 5) return ($x, $z)), $x)`, `1 1 2 5 1 1 1 2 5 1`,
		`let $x := 1 return for $y in (7, 8) return ((for $x in ($x, 0) order by $x return $x), $x)`, `0 1 1 0 1 1`,
		`let $x := 1 return for $y in (7, 8) return (let $x := (let $x := ($x, 3) return ($x, $y)) return $x, $x)`, `1 3 7 1 1 3 8 1`,
	)
	exprMeans(t, abc, "the At of a Let hides nothing", let("x", n(1), loop("y", "", n(2), api.Expr{Kind: api.Let, Name: "z", At: "x", Args: []api.Expr{n(3), v("x")}})), "1")
}

// P8.2: what stands in a Let is evaluated, whether it is used or not.
func TestUnused(t *testing.T) {
	means(t, abc,
		`let $x := 1 div 0 return 2`, `!12`,
		`let $x := 1/a return 2`, `!12`,
		`let $x := string((1, 2)) return 2`, `!12`,
		`for $x in () return 1 div 0`, ``,
		`for $x in () return let $y := 1 div 0 return $y`, ``,
		`for $x in 1 div 0 return 2`, `!12`,
		`for $x in (1, 1 div 0) return ()`, `!12`,
		`count((1, 1 div 0))`, `!12`,
		`if (1 div 0) then 1 else 1`, `!12`,
		`(1, "x" + 1, 2)`, `!12`,
	)
}

// P8.2: the branches of an If are evaluated in their iterations alone.
func TestConditional(t *testing.T) {
	means(t, abc,
		`if (1) then 2 else 3`, `2`,
		`if (0) then 2 else 3`, `3`,
		`if (()) then 2 else ()`, ``,
		`if (//a) then "y" else "n"`, `"y"`,
		`if (//z) then "y" else "n"`, `"n"`,
		`if (1 = 1) then 1 else 1 div 0`, `1`,
		`if (1 = 2) then 1 div 0 else 2`, `2`,
		`if (1 = 2) then 1 else 1 div 0`, `!12`,
		`for $x in (1, 0, 2, 0) return if ($x) then 6 div $x else "none"`, `6 "none" 3 "none"`,
		`for $x in (1, 0, 2, 0) return if ($x = 0) then () else 6 div $x`, `6 3`,
		`for $x in (1, 0, 2) return if ($x = 0) then 6 div $x else $x`, `!12`,
		`for $x in (1, 2, 3) return if ($x = 2) then ($x, $x) else if ($x = 3) then "c" else ("a", $x)`, `"a" 1 2 2 "c"`,
		`let $z := (7, 8) return for $x in (1, 2, 3) return if ($x = 2) then $z else let $y := $z return ($x, if ($x = 3) then $y else ())`, `1 7 8 3 7 8`,
		`if ((1, 2)) then 1 else 2`, `!12`,
	)
	exprMeans(t, abc, "the condition needs no boolean", cond(s("x"), n(1), n(2)), "1")
	exprMeans(t, abc, "the condition needs no boolean", cond(s(""), n(1), n(2)), "2")
	exprMeans(t, abc, "the condition needs no boolean", cond(seq(root(), n(1)), n(1), n(2)), "1")
	exprMeans(t, abc, "the condition needs no boolean", cond(seq(n(1), root()), n(1), n(2)), "!12")
}

// P8.2: arguments from left to right, each in all iterations ahead of the next one, the branches of an If one behind the
// other: that is seen by the nodes that are made.
func TestOrder(t *testing.T) {
	text := func(x api.Expr) api.Expr { return made(api.Text, "", x) }
	two, x := seq(n(1), n(2)), v("x")
	odd := call("=", call("mod", x, n(2)), n(1))
	for _, c := range []struct {
		name string
		x    api.Expr
		want string // the values of all nodes that are made
	}{
		{"a Seq", seq(text(s("a")), text(s("b"))), "ab"},
		{"a Seq in a loop", loop("x", "", two, seq(text(x), text(call("+", x, n(2))))), "1234"},
		{"a Call in a loop", loop("x", "", two, call("concat", text(x), text(call("+", x, n(2))))), "1234"},
		{"a Call with three", loop("x", "", two, call("substring", text(x), text(call("+", x, n(2))), text(call("+", x, n(4))))), "123456"},
		{"an If", loop("x", "", seq(n(2), n(1), n(4), n(3)), cond(odd, text(x), text(call("*", x, n(2))))), "1348"},
		{"a condition", loop("x", "", two, cond(text(x), text(s("a")), text(s("b")))), "12aa"},
		{"a Let", loop("x", "", two, let("y", text(x), seq(text(s("a")), v("y"), v("y")))), "12aa"},
		{"loops within one another", loop("x", "", two, seq(text(x), loop("y", "", two, text(call("+", v("y"), call("*", x, n(2))))))), "123456"},
		{"what is looped over", loop("x", "", seq(text(s("a")), text(s("b"))), text(call("concat", x, s("c")))), "abacbc"},
		{"a key ahead of a body", sorted("x", "", 1, two, text(x), text(call("+", x, n(2)))), "1234"},
		{"a body in the order that there was", sorted("x", "", 0, seq(n(3), n(1), n(2)), x, text(x)), "312"},
	} {
		l := shred(t, "<r/>")
		_, after, e := told(t, c.x, l)
		got := ""
		for _, x := range after[min(len(l), len(after)):] {
			got += x.Value
		}
		if e != api.OK || got != c.want {
			t.Errorf("%s: %s %d, want %s", c.name, got, e, c.want)
		}
		if _, nodes, _, _ := meant(c.x, l); !slices.Equal(nodes, after) {
			t.Errorf("%s: the model says %v, want %v", c.name, nodes, after)
		}
	}
}
