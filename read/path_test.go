package read_test

import (
	"strings"
	"testing"

	"pleacher/api"
)

// P5.9: paths.
func TestPaths(t *testing.T) {
	a, b, c := child("a"), child("b"), child("c")
	parseAll(t, []parsed{
		{"a", a},
		{"a/b", path(a, b)},
		{"a/b/c", path(path(a, b), c)},
		{"a//b", path(path(a, below), b)},
		{"a//b/c//a", path(path(path(path(path(a, below), b), c), below), a)},
		{"/", root},
		{"/a", path(root, a)},
		{"/a/b", path(path(root, a), b)},
		{"/a//b", path(path(path(root, a), below), b)},
		{"//a", path(path(root, below), a)},
		{"//a/b//c", path(path(path(path(path(root, below), a), b), below), c)},
		{"a/(b/c)", path(a, path(b, c))},
		{"(a/b)/c", path(path(a, b), c)},
		{"a/(b, c)/1", path(path(a, seq(b, c)), lit(1))},
		{"a/(/)", path(a, root)},
		{"/..", path(root, along(api.Parent, anyNode))},
		{"/.", path(root, dot)},
		{"/@a", path(root, along(api.Attribute, nameTest("a")))},
		{"/*", path(root, along(api.Child, named))},
		{"/(a)", path(root, a)},
		{"/()", path(root, seq())},
		{"/1", path(root, lit(1))},
		{`/"a"`, path(root, text("a"))},
		{"/$x", path(root, variable("x"))},
		{"/or", path(root, child("or"))},
		{"/for", path(root, child("for"))},
		{"/f()", path(root, call("f"))},
		{"/text {}", path(root, construct(api.Text, "", seq()))},
		{"//.", path(path(root, below), dot)},
		{"/, 1", seq(root, lit(1))},
		{"/ = /", binary("=", root, root)},
		{"/ - 1", binary("-", root, lit(1))},
		{"/ + /a", binary("+", root, path(root, a))},
		{"/ | //a", binary("|", root, path(path(root, below), a))},
		{"(/)", root},
		{"(/)[1]/a", path(filter(root, lit(1)), a)},
		{"/ * ", path(root, along(api.Child, named))},
		{"/ * * 2", binary("*", path(root, along(api.Child, named)), lit(2))},
		{"f(/)", call("f", root)},
	})
	refuse(t, []notParsed{
		{"a/", 2, short}, {"a//", 2, short}, {"//", 1, short}, {"/a/", 3, short}, {"a/b//", 4, short}, {"/a//", 3, short},
		{"a/ /b", 2, form}, {"a///b", 2, form}, {"///a", 1, form}, {"/ //a", 1, form}, {"/ /a", 1, form}, {"// //a", 1, form},
		{"/[1]", 1, form}, {"//[1]", 1, form}, {"a/[1]", 2, form}, {"/)", 1, form}, {"//)", 1, form}, {"/]", 1, form},
		{"a/-1", 2, form}, {"//-1", 1, form}, {"a/ = 1", 2, form}, {"// = 1", 1, form}, {"/ * 2", 2, form}, {"/a b", 2, form}, {"/ or 1", 2, form},
		{"/ ::a", 1, form}, {"a/+", 2, form}, {"a/,", 2, form},
	})
}

var axisNames = strings.Fields("child descendant descendant-or-self self parent ancestor ancestor-or-self following preceding following-sibling preceding-sibling attribute")

// P5.9: axes, and tests behind them.
func TestAxes(t *testing.T) {
	for i, name := range axisNames {
		axis := i + 1
		parseAll(t, []parsed{
			{name + "::a", along(axis, nameTest("a"))},
			{name + " :: * ", along(axis, named)},
			{name + "::node()", along(axis, anyNode)},
			{name + "::text()", along(axis, api.Test{Kind: api.TextTest})},
			{name + "::comment( )", along(axis, api.Test{Kind: api.CommTest})},
			{name + "::node", along(axis, nameTest("node"))},
			{name + "::text", along(axis, nameTest("text"))},
			{name + "::comment", along(axis, nameTest("comment"))},
			{name + "::for", along(axis, nameTest("for"))},
			{name + "::element", along(axis, nameTest("element"))},
			{name + "::self/b", path(along(axis, nameTest("self")), child("b"))},
			{name, child(name)},
			{name + "/a", path(child(name), child("a"))},
			{name + "(1)", call(name, lit(1))},
			{"//" + name + "::a[1]", path(path(root, below), filter(along(axis, nameTest("a")), lit(1)))},
		})
		refuse(t, []notParsed{
			{name + "::", 2, short}, {name + "::1", 2, form}, {name + "::$a", 2, form}, {name + `::"a"`, 2, form}, {name + "::@a", 2, form},
			{name + "::..", 2, form}, {name + "::.", 2, form}, {name + "::(a)", 2, form}, {name + "::a::b", 3, form}, {name + "::::", 2, form},
			{name + "::a()", 3, form}, {name + "::a(1)", 3, form}, {name + "::*()", 3, form}, {name + "::element(1)", 3, form},
			{name + "::node(", 4, short}, {name + "::text(1)", 4, form}, {name + "::comment(]", 4, form}, {name + "::node()()", 5, form},
			{name + "::element e {}", 3, form}, {name + "::text {}", 3, form}, {name + "::a b", 3, form},
		})
	}
	refuse(t, []notParsed{
		{"x::a", 0, none}, {"x::", 0, none}, {"x::)", 0, none}, {"Child::a", 0, none}, {"a/x::a", 2, none}, {"/x::a", 1, none}, {"//x::a", 1, none},
		{"namespace::a", 0, none}, {"element::a", 0, none}, {"text::a", 0, none}, {"node::a", 0, none}, {"for::a", 0, none}, {"_::a", 0, none},
		{"1, x::a ]", 2, none}, {"1 ] x::a", 1, form}, {"f(x::a", 2, none}, {"a[x::a]", 2, none}, {"- x::a", 1, none},
		{"following-siblin::a", 0, none}, {"descendant-or-self-::a", 0, none},
		{"1::a", 1, form}, {`"child"::a`, 1, form}, {"$child::a", 1, form}, {"*::a", 1, form}, {"::a", 0, form},
	})
}

// P5.9: the other steps, along the axes Attribute, Parent and Child.
func TestSteps(t *testing.T) {
	parseAll(t, []parsed{
		{"@a", along(api.Attribute, nameTest("a"))},
		{"@*", along(api.Attribute, named)},
		{"@node()", along(api.Attribute, anyNode)},
		{"@text()", along(api.Attribute, api.Test{Kind: api.TextTest})},
		{"@comment()", along(api.Attribute, api.Test{Kind: api.CommTest})},
		{"@node", along(api.Attribute, nameTest("node"))},
		{"a/@b", path(child("a"), along(api.Attribute, nameTest("b")))},
		{"..", along(api.Parent, anyNode)},
		{"../..", path(along(api.Parent, anyNode), along(api.Parent, anyNode))},
		{"*", along(api.Child, named)},
		{"*/*", path(along(api.Child, named), along(api.Child, named))},
		{"node()", along(api.Child, anyNode)},
		{"text()", along(api.Child, api.Test{Kind: api.TextTest})},
		{"comment()", along(api.Child, api.Test{Kind: api.CommTest})},
		{"a/text()", path(child("a"), along(api.Child, api.Test{Kind: api.TextTest}))},
		{"node", child("node")},
		{"text", child("text")},
		{"comment", child("comment")},
		{"text + text", binary("+", child("text"), child("text"))},
		{"element", child("element")},
		{"attribute", child("attribute")},
		{"element/a", path(child("element"), child("a"))},
		{"element = attribute", binary("=", child("element"), child("attribute"))},
		{"element or attribute", binary("or", child("element"), child("attribute"))},
		{"A-1_", child("A-1_")},
	})
	refuse(t, []notParsed{
		{"@", 1, short}, {"@1", 1, form}, {"@@a", 1, form}, {"@..", 1, form}, {"@(a)", 1, form}, {"@a()", 2, form}, {"@child::a", 2, form},
		{"@node(", 3, short}, {"@text(1)", 3, form}, {"@text {}", 2, form}, {"a@b", 1, form},
		{"...", 1, form}, {"..a", 1, form}, {"..::a", 1, form}, {"**", 2, short}, {"*a", 1, form}, {"*()", 1, form},
		{"node()()", 3, form}, {"a a", 1, form}, {"a 1", 1, form}, {"a $x", 1, form},
		{"element e", 1, form}, {"element e (", 1, form}, {"attribute k 1", 1, form}, {"element {", 1, form}, {"element 1 {}", 1, form}, {"element / {}", 2, form}, {"element ({})", 2, form},
		{"attribute $k {}", 1, form}, {"comment {}", 1, form}, {"node {}", 1, form}, {"a {}", 1, form},
	})
}

// P5.9: predicates.
func TestPredicates(t *testing.T) {
	a, b := child("a"), child("b")
	parseAll(t, []parsed{
		{"a[1]", filter(a, lit(1))},
		{"a[1][2][b]", filter(a, lit(1), lit(2), b)},
		{"a[1, 2]", filter(a, seq(lit(1), lit(2)))},
		{"a[b[1]]", filter(a, filter(b, lit(1)))},
		{"a/b[1]", path(a, filter(b, lit(1)))},
		{"a[1]/b", path(filter(a, lit(1)), b)},
		{"a[1]//b[2]", path(path(filter(a, lit(1)), below), filter(b, lit(2)))},
		{"(a/b)[1]", filter(path(a, b), lit(1))},
		{"(a[1])[2]", filter(filter(a, lit(1)), lit(2))},
		{"/a[1]", path(root, filter(a, lit(1)))},
		{"*[1]", filter(along(api.Child, named), lit(1))},
		{"@a[1]", filter(along(api.Attribute, nameTest("a")), lit(1))},
		{"..[1]", filter(along(api.Parent, anyNode), lit(1))},
		{".[1]", filter(dot, lit(1))},
		{"text()[1]", filter(along(api.Child, api.Test{Kind: api.TextTest}), lit(1))},
		{"self::a[1]", filter(along(api.Self, nameTest("a")), lit(1))},
		{"1[2]", filter(lit(1), lit(2))},
		{`"a"[1]`, filter(text("a"), lit(1))},
		{"$x[1]", filter(variable("x"), lit(1))},
		{"()[1]", filter(seq(), lit(1))},
		{"(1, 2)[1]", filter(seq(lit(1), lit(2)), lit(1))},
		{"f()[1]", filter(call("f"), lit(1))},
		{"text {}[1]", filter(construct(api.Text, "", seq()), lit(1))},
		{"- a[1]", minus(filter(a, lit(1)))},
		{"a[1] = b[2]", binary("=", filter(a, lit(1)), filter(b, lit(2)))},
		{"a[()]", filter(a, seq())},
		{"a[for $x in 1 return $x]", filter(a, flwor(variable("x"), forIn("x", "", lit(1))))},
		{"a[/]", filter(a, root)},
		{"a[. = 1]", filter(a, binary("=", dot, lit(1)))},
	})
	refuse(t, []notParsed{
		{"a[", 2, short}, {"a[1", 3, short}, {"a[]", 2, form}, {"a[1)", 3, form}, {"a[1,", 4, short}, {"a[1,]", 4, form}, {"a[1]]", 4, form},
		{"a[1][", 5, short}, {"a[1]b", 4, form}, {"a[1] 2", 4, form}, {"[1]", 0, form}, {"a[1 2]", 3, form}, {"a[1](", 4, form}, {"a[1]::b", 4, form},
	})
}

// P5.10: all but constructors and calls.
func TestNoSteps(t *testing.T) {
	parseAll(t, []parsed{
		{"0", lit(0)},
		{"1099511627776", lit(api.MaxInt)},
		{`""`, text("")},
		{`"a b"`, text("a b")},
		{"$x", variable("x")},
		{"$for", variable("for")},
		{".", dot},
		{"()", seq()},
		{"(())", seq()},
		{"(1)", lit(1)},
		{"((1))", lit(1)},
		{"(1, 2)", seq(lit(1), lit(2))},
		{"((1, 2))", seq(lit(1), lit(2))},
		{"((1), 2)", seq(lit(1), lit(2))},
		{"(for $x in 1 return $x) + 1", binary("+", flwor(variable("x"), forIn("x", "", lit(1))), lit(1))},
		{"$x/1/./()", path(path(path(variable("x"), lit(1)), dot), seq())},
	})
	refuse(t, []notParsed{
		{"(", 1, short}, {"((", 2, short}, {"(1", 2, short}, {"(1, 2", 4, short}, {"(]", 1, form}, {"(1]", 2, form}, {"(,)", 1, form},
		{"(1,)", 3, form}, {"())", 2, form}, {"()()", 2, form}, {"(1)(2)", 3, form}, {"{1}", 0, form}, {"$x(1)", 1, form}, {"1(2)", 1, form},
		{". .", 1, form}, {"$x $y", 1, form}, {"1{", 1, form},
	})
}

// P5.10: constructors.
func TestConstructors(t *testing.T) {
	parseAll(t, []parsed{
		{"element e {}", construct(api.Elem, "e", seq())},
		{"element e { 1 }", construct(api.Elem, "e", lit(1))},
		{"element e { 1, 2 }", construct(api.Elem, "e", seq(lit(1), lit(2)))},
		{"element e { () }", construct(api.Elem, "e", seq())},
		{"attribute k {}", construct(api.Attr, "k", seq())},
		{"attribute k { 1, 2 }", construct(api.Attr, "k", seq(lit(1), lit(2)))},
		{"text {}", construct(api.Text, "", seq())},
		{`text { 1, "x" }`, construct(api.Text, "", seq(lit(1), text("x")))},
		{"element element { attribute attribute { text { text } } }",
			construct(api.Elem, "element", construct(api.Attr, "attribute", construct(api.Text, "", child("text"))))},
		{"element text {}", construct(api.Elem, "text", seq())},
		{"element for { for $x in 1 return $x }", construct(api.Elem, "for", flwor(variable("x"), forIn("x", "", lit(1))))},
		{"element e {}/a", path(construct(api.Elem, "e", seq()), child("a"))},
		{"a/element e {}", path(child("a"), construct(api.Elem, "e", seq()))},
		{"text {} + 1", binary("+", construct(api.Text, "", seq()), lit(1))},
		{"- element e {}", minus(construct(api.Elem, "e", seq()))},
	})
	refuse(t, []notParsed{
		{"element e {", 3, short}, {"element e { 1", 4, short}, {"element e { 1,", 5, short}, {"element e { ]", 3, form}, {"element e { 1 )", 4, form},
		{"element e { 1 2 }", 4, form}, {"element e { , }", 3, form}, {"element e {} }", 4, form}, {"element e {} {}", 4, form},
		{"attribute k {", 3, short}, {"attribute k { )", 3, form}, {"attribute k {} 1", 4, form},
		{"text {", 2, short}, {"text { 1", 3, short}, {"text { ]", 2, form}, {"text { 1 ]", 3, form}, {"text {} a", 3, form}, {"text t {}", 1, form},
		{"comment c {}", 1, form}, {"Element e {}", 1, form}, {`"element" e {}`, 1, form}, {"$element e {}", 1, form},
	})
}

// P5.10: calls.
func TestCalls(t *testing.T) {
	parseAll(t, []parsed{
		{"f()", call("f")},
		{"f(1)", call("f", lit(1))},
		{"f (1, 2, 3)", call("f", lit(1), lit(2), lit(3))},
		{"f((1, 2))", call("f", seq(lit(1), lit(2)))},
		{"f(())", call("f", seq())},
		{"f(g(1), h())", call("f", call("g", lit(1)), call("h"))},
		{"f(if (1) then 2 else 3, some $x in 4 satisfies 5)", call("f", conditional(lit(1), lit(2), lit(3)), quantified(api.Some, "x", lit(4), lit(5)))},
		{"f(1 or 2, - 3)", call("f", binary("or", lit(1), lit(2)), minus(lit(3)))},
		{"text(1)", call("text", lit(1))},
		{"node(1, 2)", call("node", lit(1), lit(2))},
		{"comment((1))", call("comment", lit(1))},
		{"text(())", call("text", seq())},
		{"element(1)", call("element", lit(1))},
		{"attribute()", call("attribute")},
		{"for()", call("for")},
		{"some(1)", call("some", lit(1))},
		{"if + if()", binary("+", child("if"), call("if"))},
		{"or(1)", call("or", lit(1))},
		{"distinct-values(1)", call("distinct-values", lit(1))},
		{"a/f(.)/b", path(path(child("a"), call("f", dot)), child("b"))},
	})
	refuse(t, []notParsed{
		{"f(", 2, short}, {"f(1", 3, short}, {"f(1,", 4, short}, {"f(1,)", 4, form}, {"f(,1)", 2, form}, {"f(1 2)", 3, form}, {"f(1]", 3, form},
		{"f(]", 2, form}, {"f())", 3, form}, {"f()()", 3, form}, {"text(", 2, short}, {"node(]", 2, form}, {"text(1", 3, short}, {"if()", 2, form},
		{"f(1) a", 4, form}, {"f()a", 3, form},
	})
}
