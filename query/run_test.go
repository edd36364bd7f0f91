package query_test

import (
	"strings"
	"testing"

	"pleacher/api"
	"pleacher/query"
)

// abc: a document with nodes of all kinds.
const abc = `<r><a k="1">x</a><a k="2"><b>3</b></a><b/><!--c--></r>`

// What its elements are.
const (
	a1 = `<a k="1">x</a>`
	a2 = `<a k="2"><b>3</b></a>`
	b1 = `<b>3</b>`
)

// asLines: each with the byte 10 behind it.
func asLines(l ...string) string {
	s := ""
	for _, x := range l {
		s += x + "\n"
	}
	return s
}

// runs: a query over a document must tell these lines.
func runs(t *testing.T, doc, q string, want ...string) {
	t.Helper()
	if got, e := query.Run(doc, q); got != asLines(want...) || e != api.OK {
		t.Errorf("%s: %q %d, want %q", q, got, e, asLines(want...))
	}
}

// refuses: of a document and a query comes this error, and nothing else.
func refuses(t *testing.T, what, doc, q string, want api.Errno) {
	t.Helper()
	if got, e := query.Run(doc, q); got != "" || e != want {
		t.Errorf("%s: %q %d, want %d", what, got, e, want)
	}
}

// The examples of the whole.
func TestExamples(t *testing.T) {
	const doc = `<r><a k="1"/><a k="2"/></r>`
	runs(t, doc, "for $x in //a where $x/@k > 1 return $x", `<a k="2"/>`)
	runs(t, doc, "count(//@k), sum(//@k)", "2", "3")
	runs(t, doc, `element e { /r/a[1]/@k, "x" }`, `<e k="1">x</e>`)
	refuses(t, "1 div 0", doc, "1 div 0", api.ErrValue)
}

// P10.3: items of all kinds, each in a line.
func TestRunItems(t *testing.T) {
	runs(t, abc, "()")
	runs(t, abc, "//nothing")
	runs(t, abc, `""`, "")
	runs(t, abc, `"", 1, ""`, "", "1", "")
	runs(t, abc, "-7 div 2, -7 mod 2, 7 * -1", "-3", "-1", "-7")
	runs(t, abc, "1099511627776, -1099511627776", "1099511627776", "-1099511627776")
	runs(t, abc, "true(), 1 = 2", "true", "false")
	runs(t, abc, `"<a>&amp;", concat("é", 1)`, "<a>&amp;", "é1")
	runs(t, abc, "\"two\nlines\"", "two\nlines")
	runs(t, abc, "/", abc)
	runs(t, abc, "/, /r", abc, abc)
	runs(t, abc, "//@k", `k="1"`, `k="2"`)
	runs(t, abc, "//text() | //comment()", "x", "3", "<!--c-->")
	runs(t, `<r k="&quot;&lt;">&amp;&gt;</r>`, "/r/@k, /r/text(), string(/r)", `k="&quot;&lt;"`, "&amp;&gt;", "&>")
	runs(t, abc, "1 to 12", "1", "2", "3", "4", "5", "6", "7", "8", "9", "10", "11", "12")
}

// P10.3: paths, predicates and sets.
func TestRunPaths(t *testing.T) {
	runs(t, abc, "//a", a1, a2)
	runs(t, abc, "//b[1]", b1, "<b/>") // the first one of each parent
	runs(t, abc, "(//b)[1]", b1)
	runs(t, abc, "//a[last()]", a2)
	runs(t, abc, "//a[position() < 2]/@k", `k="1"`)
	runs(t, abc, "//a[@k = 2][1]/b", b1)
	runs(t, abc, "//b/ancestor::*", abc, a2)
	runs(t, abc, "//a[1]/following-sibling::node()", a2, "<b/>", "<!--c-->")
	runs(t, abc, "//a/(b | @k)", `k="1"`, `k="2"`, b1)
	runs(t, abc, "(//a union //b) except //a[1]", a2, b1, "<b/>")
	runs(t, abc, "//a intersect //a[b]", a2)
	runs(t, abc, "//b/.., //b/../..", abc, a2, abc, abc)
	runs(t, abc, "//a[1] << //a[2]", "true")
	runs(t, abc, "//a[1] is //a[2]/..", "false")
	runs(t, abc, "reverse(//a)", a2, a1)
}

// P10.3: loops, choices and functions.
func TestRunPhrases(t *testing.T) {
	runs(t, abc, "for $x at $i in //a return ($i, $x/@k)", "1", `k="1"`, "2", `k="2"`)
	runs(t, abc, "for $x at $i in (3, 1, 2) order by $x descending return ($i, $x)", "1", "3", "3", "2", "2", "1")
	runs(t, abc, "for $x in //a let $k := $x/@k where $k > 1 order by $k return name($x)", "a")
	runs(t, abc, "for $x in 1 to 2 for $y in (3, 4) return $x * $y", "3", "4", "6", "8")
	runs(t, abc, `if (//c) then 1 else "n"`, "n")
	runs(t, abc, "some $x in //a satisfies $x/b, every $x in //a satisfies $x/b", "true", "false")
	runs(t, abc, "string(/r), string-length(/r), substring(\"abcd\", 2, 2)", "x3", "2", "bc")
	runs(t, abc, "distinct-values((1, \"1\", 1)), reverse(1 to 3)", "1", "1", "3", "2", "1")
	runs(t, abc, "sum(//@k), min(//@k), max((1, 3)), sum(()), max(())", "3", "1", "3", "0")
	runs(t, abc, "not(//a) or 1 = (2, 1)", "true")
	runs(t, abc, "if (true()) then 1 else 1 div 0", "1") // what is not evaluated is not refused
	runs(t, abc, "for $x in () return 1 div 0")
}

// P10.3: nodes that are made.
func TestRunMakes(t *testing.T) {
	runs(t, abc, `element e { /r/a[1]/@k, 1, 2, "x", //b }`, `<e k="1">1 2 x<b>3</b><b/></e>`)
	runs(t, abc, `attribute k { 1, "<" }, text { "<", 1 }`, `k="1 &lt;"`, "&lt; 1")
	runs(t, abc, `text { "" }, text { () }, element e { "" }`, "", "<e/>")
	runs(t, abc, `element e { attribute k { "é" }, element f { //comment() }, text { ">" } }`, `<e k="é"><f><!--c--></f>&gt;</e>`)
	runs(t, abc, "let $x := element e { 1 } return ($x is $x, $x is element e { 1 })", "true", "false")
	runs(t, abc, "for $x in //a return element e { $x/@k }", `<e k="1"/>`, `<e k="2"/>`)
	// Each constructor makes its nodes in all iterations, ahead of the next one: in that order they stand.
	runs(t, abc, "(for $x in (1, 2) return (element a { $x }, element b { $x }))/.", "<a>1</a>", "<a>2</a>", "<b>1</b>", "<b>2</b>")
}

// P10.3: nodes that are made may be deeper, and more, than those of a document.
func TestRunGreat(t *testing.T) {
	deep := strings.Repeat("<e>", api.MaxDepth-1) + "<e/>" + strings.Repeat("</e>", api.MaxDepth-1)
	runs(t, deep, "element f { element g { /e } }", "<f><g>"+deep+"</g></f>")
	wide := "<r>" + strings.Repeat("<a/>", (api.MaxEvents-2)/2) + "</r>"
	runs(t, wide, "element f { /r, /r }", "<f>"+wide+wide+"</f>")
	long := strings.Repeat("x", api.MaxXml-len("<r></r>"))
	runs(t, "<r>"+long+"</r>", "concat(concat(/r, /r), concat(/r, /r))", strings.Repeat(long, 4))
}

// P10.3: what work is at most MaxWork is done, however many rows come of it on the way.
func TestRunWork(t *testing.T) {
	wide := func(n int) string { return "<r>" + strings.Repeat("<a/>", n) + "</r>" }
	runs(t, wide(199), "count(for $x at $i in //a return $i)", "199")
	runs(t, wide(199), "(//a, //a) != //a", "false")
	runs(t, wide(100), "let $x := //a return sum(for $y at $i in $x return if ($i = 7) then count($x) else $i)", "5143")
}

// P10.3: of a document and a query that may be, what has no value.
func TestRunNoValue(t *testing.T) {
	for _, q := range []string{
		"1 div 0", "1 mod 0", `"a" + 1`, "(1, 2) + 1", "1099511627776 + 1", "1 to 21", "1/a", "//a/1", "(//a, 1) | //b",
		"1 is 2", "if ((1, 2)) then 1 else 2", "string((1, 2))", "integer(/r)", "sum(//a)", "name(1)",
		"for $x in 1 order by (1, 2) return 1", "//a[1 div 0]", "//a[(1, 2)]", "1 = 1 or 1 div 0",
		"element e { / }", `element e { "x", /r/a[1]/@k }`, "element e { //@k }", "1, 2, 1 div 0", "(1 div 0)[false()]",
		"let $x := 1 div 0 return 1",
	} {
		refuses(t, q, abc, q, api.ErrValue)
	}
}

// documents that are refused.
var wrongDocs = []struct {
	what, doc string
	want      api.Errno
}{
	{"nothing", "", api.ErrShort},
	{"an element that is open", "<r>", api.ErrShort},
	{"no element", "x", api.ErrForm},
	{"two elements", "<r/><r/>", api.ErrForm},
	{"another end", "<r></s>", api.ErrForm},
	{"too many bytes", "<r>" + strings.Repeat("x", api.MaxXml) + "</r>", api.ErrSize},
	{"too many events", "<r>" + strings.Repeat("<a/>", api.MaxEvents/2) + "</r>", api.ErrSize},
	{"too long a name", "<" + strings.Repeat("r", api.MaxName+1) + "/>", api.ErrSize},
	{"an attribute twice", `<r k="" k=""/>`, api.ErrTwice},
	{"too deep", strings.Repeat("<r>", api.MaxDepth) + "<r/>" + strings.Repeat("</r>", api.MaxDepth), api.ErrDeep},
	{"no text", "<r>\xff</r>", api.ErrForm},
}

// P10.3: the document is refused ahead of the query, and the query ahead of what has no value.
func TestRunRefused(t *testing.T) {
	for _, c := range wrongDocs {
		for _, q := range []string{"1", "1 div 0", "$x", "1 +", "count()", strings.Repeat(" ", api.MaxQuery+1)} {
			refuses(t, c.what, c.doc, q, c.want)
		}
	}
	for _, c := range refusals {
		refuses(t, c.what, abc, c.q, c.want)
	}
	refuses(t, "no such variable, behind what has no value", abc, "1 div 0, $x", api.ErrNone)
	refuses(t, "an end that is missing, behind what has no value", abc, "(1 div 0", api.ErrShort)
}

// P10.3: beyond the bounds of the work it ends, and tells what is meant, or ErrSize.
func TestRunBeyond(t *testing.T) {
	loops := func(n int) string { return strings.Repeat("for $x in 1 to 20 ", n) }
	runs(t, abc, "count("+loops(3)+"return $x)", "8000")
	refuses(t, "too many rows", abc, loops(5)+"return $x", api.ErrSize)
}
