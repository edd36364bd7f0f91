package run_test

import (
	"slices"
	"strings"
	"testing"

	"pleacher/api"
	"pleacher/run"
	"pleacher/store"
)

// none: what stands for a value that there is not.
var none = api.Item{}

// applied: a function of items, over nodes.
func applied(t *testing.T, l []api.Node, name string, items ...api.Item) api.Item {
	t.Helper()
	p, cols := withItems(t, l, items...)
	r, made, e := run.Eval(append(p, api.Op{Kind: api.Apply, In: at(len(p) - 1), New: "v", Name: name, Cols: cols}), l)
	if e == api.ErrValue {
		return none
	}
	if e != api.OK || len(r.Rows) != 1 || !slices.Equal(made, l) {
		t.Fatalf("%s of %v: %v %v %d", name, items, r, made, e)
	}
	return r.Rows[0][len(r.Cols)-1]
}

// withItems: a plan whose last op tells one row with these items, nodes among them, and their columns. A node is the only
// one that is left of all nodes, by the how many-th it is.
func withItems(t *testing.T, l []api.Node, items ...api.Item) (api.Plan, []string) {
	t.Helper()
	p := api.Plan{table("pos item", row(num(0), num(0)))}
	var cols []string
	for i, x := range items {
		col := names("a", "b", "c")[i]
		cols = append(cols, col)
		before := len(p) - 1
		if x.Kind != api.IsNode {
			p = append(p, table(col, row(x)))
		} else {
			p = append(p, pick(len(p), x.N, col)...)
		}
		p = append(p, api.Op{Kind: api.Cross, In: at(before, len(p)-1)})
	}
	return p, cols
}

// pick a node by its place, into a column, with ops from a place of the plan on. It is reached from the node 0 alone.
func pick(place, n int, col string) api.Plan {
	return api.Plan{
		{Kind: api.Source},
		table("iter", row(num(1))),
		{Kind: api.Cross, In: at(place, place+1)},
		{Kind: api.Walk, In: at(place + 2), Axis: api.DescendantOrSelf, Test: anyNode},
		{Kind: api.Walk, In: at(place + 3), Axis: api.Attribute, Test: anyNode},
		{Kind: api.Union, In: at(place+3, place+4)},
		{Kind: api.Rank, In: at(place + 5), New: "n", Cols: names("item")},
		table("k", row(num(n+1))),
		{Kind: api.Join, In: at(place+6, place+7), Cols: names("n", "k")},
		{Kind: api.Project, In: at(place + 8), Cols: names(col), Olds: names("item")},
	}
}

type call struct {
	name  string
	items []api.Item
	want  api.Item
}

func calls(t *testing.T, l []api.Node, cases []call) {
	t.Helper()
	for _, c := range cases {
		if got := applied(t, l, c.name, c.items...); got != c.want {
			t.Errorf("%s of %v: %v, want %v", c.name, c.items, got, c.want)
		}
	}
}

// sample:
//
//	0 the document
//	1 r
//	2   @k "7"
//	3   "x"
//	4   a
//	5     @m ""
//	6     "-12"
//	7   a comment "c"
//	8   b
func sample(t *testing.T) []api.Node {
	t.Helper()
	return shred(t, `<r k="7">x<a m="">-12</a><!--c--><b/></r>`)
}

// P7.4: each row, with a value more.
func TestApply(t *testing.T) {
	p := api.Plan{
		table("item q pos", row(num(7), text("2"), num(0)), row(num(9), num(-4), num(0)), row(num(7), yes, num(1))),
		{Kind: api.Apply, In: at(0), New: "v", Name: "div", Cols: names("item", "q")},
		{Kind: api.Apply, In: at(1), New: "w", Name: "-", Cols: names("v", "v")},
		{Kind: api.Apply, In: at(2), New: "x", Name: "substring", Cols: names("item", "pos", "q")},
	}
	want := [][]api.Item{
		{num(7), text("2"), num(0), num(3), num(0), text("7")},
		{num(9), num(-4), num(0), num(-2), num(0), text("")},
		{num(7), yes, num(1), num(7), num(0), text("7")},
	}
	if r, _ := told(t, p, nil); !sameRel(r, api.Rel{Cols: names("item", "q", "pos", "v", "w", "x"), Rows: want}) {
		t.Errorf("%v", r)
	}
	p[0].Rel.Rows = nil
	if r, _ := told(t, p, nil); len(r.Rows) > 0 || len(r.Cols) != 6 {
		t.Errorf("no rows: %v", r)
	}
	refusedEval(t, "one row without a value", append(two(), table("pos item", row(num(1), num(1)), row(num(1), num(0)), row(num(1), num(1))),
		api.Op{Kind: api.Apply, In: at(2), New: "v", Name: "div", Cols: names("pos", "item")}), nil, api.ErrValue)
}

// P7.4: how many items each function has.
func TestArguments(t *testing.T) {
	for i, l := range [][]string{
		names("data", "node", "name", "string", "integer", "one", "neg", "length", "not"),
		names("+", "-", "*", "div", "mod", "span", "concat", "contains", "starts", "=", "!=", "<", "<=", ">", ">=", "is", "<<", ">>", "and", "or", "ebv"),
		names("substring", "holds"),
	} {
		for _, name := range l {
			for n := range 5 {
				op := api.Op{Kind: api.Apply, In: at(0), New: "v", Name: name, Cols: slices.Repeat(names("item"), n)}
				want := api.ErrCols
				if n == i+1 {
					want = api.OK
				}
				if _, e := run.Columns(api.Plan{last(), op}); e != want {
					t.Errorf("%s of %d: %d, want %d", name, n, e, want)
				}
			}
		}
	}
	for _, name := range names("", "count", "empty", "exists", "boolean", "sum", "min", "max", "distinct", "reverse", "ddo", "to", "union",
		"intersect", "except", "Data", "string-length", "starts-with", "|", "==", "data ") {
		op := api.Op{Kind: api.Apply, In: at(0), New: "v", Name: name, Cols: names("item")}
		if _, e := run.Columns(api.Plan{last(), op}); e != api.ErrNone {
			t.Errorf("%q: %d", name, e)
		}
	}
}

// P7.4
func TestData(t *testing.T) {
	l := sample(t)
	var cases []call
	for n := range l {
		s, e := store.Text(l, n)
		if e != api.OK {
			t.Fatal(e)
		}
		cases = append(cases,
			call{"data", row(node(n)), text(s)}, call{"string", row(node(n)), text(s)}, call{"node", row(node(n)), node(n)},
			call{"name", row(node(n)), text(l[n].Name)}, call{"one", row(node(n)), none})
	}
	for _, x := range row(num(0), num(1), num(-5), num(api.MaxInt), text(""), text("é 1"), yes, no) {
		cases = append(cases, call{"data", row(x), x}, call{"node", row(x), none}, call{"name", row(x), none})
	}
	cases = append(cases, []call{
		{"string", row(num(0)), text("0")}, {"string", row(num(-12)), text("-12")}, {"string", row(num(-api.MaxInt)), text("-1099511627776")},
		{"string", row(text("")), text("")}, {"string", row(text("a b")), text("a b")}, {"string", row(yes), text("true")}, {"string", row(no), text("false")},
		{"one", row(num(1)), num(1)}, {"one", row(num(0)), num(0)}, {"one", row(num(-3)), num(-3)}, {"one", row(num(2)), none},
		{"one", row(num(api.MaxInt)), none}, {"one", row(text("1")), none}, {"one", row(yes), none}, {"one", row(no), none}, {"one", row(text("")), none},
	}...)
	calls(t, l, cases)
}

// P7.4: a text is a number if it is written just as a number is.
func TestInteger(t *testing.T) {
	var cases []call
	for s, n := range map[string]int{"0": 0, "1": 1, "-1": -1, "907": 907, "-12": -12, "1099511627776": api.MaxInt, "-1099511627776": -api.MaxInt} {
		cases = append(cases, call{"integer", row(text(s)), num(n)}, call{"integer", row(num(n)), num(n)})
	}
	for _, s := range names("", "-", "+1", "-0", "00", "01", "-01", " 1", "1 ", "1.0", "1e3", "0x1", "1_0", "--1", "a", "true", "٣", "1099511627777",
		"-1099511627777", "9223372036854775808", "18446744073709551616", strings.Repeat("1", api.MaxText)) {
		cases = append(cases, call{"integer", row(text(s)), none})
	}
	cases = append(cases, []call{
		{"integer", row(yes), num(1)}, {"integer", row(no), num(0)}, {"integer", row(node(2)), num(7)}, {"integer", row(node(6)), num(-12)},
		{"integer", row(node(4)), num(-12)}, {"integer", row(node(5)), none}, {"integer", row(node(0)), none}, {"integer", row(node(7)), none},
	}...)
	calls(t, sample(t), cases)
}

// P7.5
func TestNumbers(t *testing.T) {
	const top = api.MaxInt
	calls(t, sample(t), []call{
		{"neg", row(num(5)), num(-5)}, {"neg", row(num(-top)), num(top)}, {"neg", row(text("-3")), num(3)}, {"neg", row(yes), num(-1)},
		{"neg", row(text("a")), none}, {"neg", row(node(6)), num(12)}, {"neg", row(text("0")), num(0)},
		{"+", row(num(2), num(3)), num(5)}, {"+", row(num(top), num(1)), none}, {"+", row(num(top), num(-1)), num(top - 1)},
		{"+", row(num(-top), num(-1)), none}, {"+", row(num(top-1), yes), num(top)}, {"+", row(text("2"), node(2)), num(9)},
		{"+", row(text("2"), text("")), none}, {"+", row(text(" "), num(2)), none},
		{"-", row(num(2), num(3)), num(-1)}, {"-", row(num(-top), num(1)), none}, {"-", row(num(top), num(top)), num(0)}, {"-", row(num(1), num(-top)), none},
		{"*", row(num(-4), num(3)), num(-12)}, {"*", row(num(top), num(1)), num(top)}, {"*", row(num(-1), num(top)), num(-top)},
		{"*", row(num(top), num(top)), none}, {"*", row(num(-top), num(-top)), none}, {"*", row(num(0), num(top)), num(0)}, {"*", row(num(top), num(0)), num(0)},
		{"*", row(num(1<<20), num(1<<20)), num(top)}, {"*", row(num(1<<20), num(-1<<20)), num(-top)}, {"*", row(num(1<<20+1), num(1<<20)), none},
		{"*", row(num(1<<39), num(1<<25)), none}, {"*", row(num(1<<32), num(1<<32)), none}, {"*", row(num(3), num(366503875925)), num(1099511627775)},
		{"*", row(num(3), num(-366503875926)), none}, {"*", row(text("-2"), node(4)), num(24)},
		{"div", row(num(7), num(2)), num(3)}, {"div", row(num(-7), num(2)), num(-3)}, {"div", row(num(7), num(-2)), num(-3)}, {"div", row(num(-7), num(-2)), num(3)},
		{"div", row(num(7), num(0)), none}, {"div", row(num(0), num(0)), none}, {"div", row(num(7), no), none}, {"div", row(num(0), num(-3)), num(0)},
		{"div", row(num(-top), num(-1)), num(top)}, {"div", row(num(1), text("0")), none},
		{"mod", row(num(7), num(2)), num(1)}, {"mod", row(num(-7), num(2)), num(-1)}, {"mod", row(num(7), num(-2)), num(1)}, {"mod", row(num(-7), num(-2)), num(-1)},
		{"mod", row(num(7), num(0)), none}, {"mod", row(num(6), num(3)), num(0)}, {"mod", row(num(2), text("x")), none},
		{"span", row(num(1), num(3)), num(3)}, {"span", row(num(3), num(3)), num(1)}, {"span", row(num(4), num(3)), num(0)}, {"span", row(num(5), num(3)), num(0)},
		{"span", row(num(1), num(20)), num(20)}, {"span", row(num(1), num(21)), none}, {"span", row(num(-19), num(0)), num(20)}, {"span", row(num(-20), num(0)), none},
		{"span", row(num(-top), num(top)), none}, {"span", row(num(top), num(-top)), num(0)}, {"span", row(text("1"), node(2)), num(7)},
		{"span", row(num(1), text("a")), none}, {"span", row(no, yes), num(2)},
	})
}

// P7.5
func TestTexts(t *testing.T) {
	half := strings.Repeat("é", api.MaxText/4)
	calls(t, sample(t), []call{
		{"length", row(text("")), num(0)}, {"length", row(text("aé中")), num(3)}, {"length", row(num(-12)), num(3)}, {"length", row(no), num(5)},
		{"length", row(node(0)), num(4)}, {"length", row(node(8)), num(0)},
		{"concat", row(text("a"), text("é")), text("aé")}, {"concat", row(num(-1), yes), text("-1true")}, {"concat", row(node(2), node(1)), text("7x-12")},
		{"concat", row(text(""), text("")), text("")}, {"concat", row(text(half), text(half)), text(half + half)},
		{"concat", row(text(half+half), text("")), text(half + half)}, {"concat", row(text(half+half), text("a")), none},
		{"concat", row(num(1), text(half+half)), none},
		{"contains", row(text("abc"), text("bc")), yes}, {"contains", row(text("abc"), text("ac")), no}, {"contains", row(text("abc"), text("")), yes},
		{"contains", row(text(""), text("")), yes}, {"contains", row(text(""), text("a")), no}, {"contains", row(num(123), num(23)), yes},
		{"contains", row(yes, text("ru")), yes}, {"contains", row(node(0), node(4)), yes}, {"contains", row(text("abc"), text("B")), no},
		{"starts", row(text("abc"), text("ab")), yes}, {"starts", row(text("abc"), text("bc")), no}, {"starts", row(text("ab"), text("abc")), no},
		{"starts", row(text("abc"), text("")), yes}, {"starts", row(num(-12), text("-")), yes}, {"starts", row(node(1), text("x")), yes},
	})
}

// P7.5
func TestSubstring(t *testing.T) {
	const top = api.MaxInt
	var cases []call
	for _, c := range []struct {
		s          string
		from, many int
		want       string
	}{
		{"abcde", 1, 5, "abcde"}, {"abcde", 2, 3, "bcd"}, {"abcde", 1, 0, ""}, {"abcde", 1, 1, "a"}, {"abcde", 5, 1, "e"}, {"abcde", 5, 9, "e"},
		{"abcde", 6, 1, ""}, {"abcde", 0, 2, "a"}, {"abcde", 0, 1, ""}, {"abcde", -2, 5, "ab"}, {"abcde", -2, 3, ""}, {"abcde", 2, -1, ""},
		{"abcde", 9, -7, ""}, {"aé中d", 2, 2, "é中"}, {"aé中d", 3, 9, "中d"}, {"", 1, 1, ""}, {"", 0, 9, ""}, {"abc", top, top, ""},
		{"abc", -top, top, ""}, {"abc", -top + 2, top, "a"}, {"abc", 2, top, "bc"}, {"abc", -top, -top, ""}, {"abc", top, -top, ""},
	} {
		cases = append(cases, call{"substring", row(text(c.s), num(c.from), num(c.many)), text(c.want)})
	}
	cases = append(cases, []call{
		{"substring", row(num(-123), num(2), num(2)), text("12")}, {"substring", row(yes, text("2"), yes), text("r")},
		{"substring", row(node(0), node(2), num(1)), text("")}, {"substring", row(node(0), num(2), node(2)), text("-12")},
		{"substring", row(text("abc"), text("a"), num(1)), none}, {"substring", row(text("abc"), num(1), text("")), none},
	}...)
	calls(t, sample(t), cases)
}

// P7.6: what each of the comparisons says of two.
func TestCompared(t *testing.T) {
	l := sample(t)
	const less, same, more, unlike = -1, 0, 1, 2
	for _, c := range []struct {
		a, b api.Item
		is   int
	}{
		{num(1), num(2), less}, {num(2), num(2), same}, {num(2), num(-2), more}, {num(10), num(9), more},
		{text("a"), text("b"), less}, {text("a"), text("a"), same}, {text("b"), text("ab"), more}, {text(""), text("a"), less},
		{text("10"), text("9"), less}, {text("é"), text("z"), more}, {no, yes, less}, {yes, yes, same}, {no, no, same}, {yes, no, more},
		{num(10), text("9"), more}, {text("9"), num(10), less}, {text("-3"), num(-3), same}, {num(-3), text("-3"), same},
		{num(1), text("01"), unlike}, {text("01"), num(1), unlike}, {num(1), text("+1"), unlike}, {num(1), text("a"), unlike}, {text(""), num(0), unlike},
		{num(0), text("1099511627777"), unlike}, {num(0), text("1099511627776"), less},
		{num(1), yes, unlike}, {yes, num(1), unlike}, {text("true"), yes, unlike}, {no, text(""), unlike}, {no, num(0), unlike},
		{node(2), num(7), same}, {num(8), node(2), more}, {node(2), text("7"), same}, {node(2), text("07"), more}, {node(4), node(6), same}, {node(4), num(-12), same},
		{node(5), node(8), same}, {node(5), text(""), same}, {node(8), num(0), unlike}, {node(0), node(1), same}, {node(3), node(7), more}, {node(7), node(3), less},
		{node(5), no, unlike}, {yes, node(1), unlike}, {node(2), node(6), more}, {node(3), num(7), unlike},
	} {
		calls(t, l, []call{
			{"=", row(c.a, c.b), truth(c.is == same)}, {"!=", row(c.a, c.b), truth(c.is != same)},
			{"<", row(c.a, c.b), truth(c.is == less)}, {"<=", row(c.a, c.b), truth(c.is == less || c.is == same)},
			{">", row(c.a, c.b), truth(c.is == more)}, {">=", row(c.a, c.b), truth(c.is == more || c.is == same)},
		})
	}
}

func truth(is bool) api.Item {
	if is {
		return yes
	}
	return no
}

// P7.6
func TestNodes(t *testing.T) {
	l := sample(t)
	for a := range l {
		for b := range l {
			calls(t, l, []call{
				{"is", row(node(a), node(b)), truth(a == b)}, {"<<", row(node(a), node(b)), truth(a < b)}, {">>", row(node(a), node(b)), truth(a > b)}})
		}
		for _, x := range row(num(a), text(""), yes) {
			for _, name := range names("is", "<<", ">>") {
				calls(t, l, []call{{name, row(node(a), x), none}, {name, row(x, node(a)), none}, {name, row(x, x), none}})
			}
		}
	}
}

// P7.6
func TestTruths(t *testing.T) {
	l := sample(t)
	calls(t, l, []call{
		{"not", row(yes), no}, {"not", row(no), yes},
		{"and", row(yes, yes), yes}, {"and", row(yes, no), no}, {"and", row(no, yes), no}, {"and", row(no, no), no},
		{"or", row(yes, yes), yes}, {"or", row(yes, no), yes}, {"or", row(no, yes), yes}, {"or", row(no, no), no},
	})
	for _, x := range row(num(0), num(1), text("true"), text(""), node(0), node(8)) {
		calls(t, l, []call{
			{"not", row(x), none}, {"and", row(yes, x), none}, {"and", row(no, x), none}, {"and", row(x, yes), none},
			{"or", row(yes, x), none}, {"or", row(x, no), none}, {"or", row(x, yes), none}})
	}
}

// P7.6
func TestEbv(t *testing.T) {
	l := sample(t)
	calls(t, l, []call{
		{"ebv", row(num(0), num(1)), no}, {"ebv", row(num(1), num(1)), yes}, {"ebv", row(num(-7), num(1)), yes},
		{"ebv", row(text(""), num(1)), no}, {"ebv", row(text("0"), num(1)), yes}, {"ebv", row(text("false"), num(1)), yes},
		{"ebv", row(yes, num(1)), yes}, {"ebv", row(no, num(1)), no},
		{"ebv", row(node(0), num(1)), yes}, {"ebv", row(node(8), num(1)), yes}, {"ebv", row(node(5), num(2)), yes}, {"ebv", row(node(5), num(0)), yes},
	})
	for _, x := range row(num(0), num(1), text(""), text("a"), yes, no) {
		for _, n := range row(num(0), num(2), num(-1), yes, no, text("1"), text(""), node(2)) {
			calls(t, l, []call{{"ebv", row(x, n), none}, {"ebv", row(x, n), none}, {"holds", row(x, n, num(1)), none}})
		}
	}
	for _, n := range row(yes, text("1"), node(2)) {
		calls(t, l, []call{{"ebv", row(node(0), n), none}})
	}
}

// P7.6
func TestHolds(t *testing.T) {
	l := sample(t)
	calls(t, l, []call{
		{"holds", row(num(3), num(1), num(3)), yes}, {"holds", row(num(3), num(1), num(2)), no}, {"holds", row(num(0), num(1), num(0)), yes},
		{"holds", row(num(1), num(1), num(2)), no}, {"holds", row(num(3), num(2), num(3)), none},
		{"holds", row(text(""), num(1), num(1)), no}, {"holds", row(text("2"), num(1), num(1)), yes}, {"holds", row(yes, num(1), num(2)), yes},
		{"holds", row(no, num(1), num(0)), no}, {"holds", row(yes, num(2), num(2)), none}, {"holds", row(text("a"), num(2), num(2)), none},
		{"holds", row(node(8), num(1), num(2)), yes}, {"holds", row(node(8), num(5), num(2)), yes}, {"holds", row(node(2), num(1), num(8)), yes},
		{"holds", row(num(3), num(1), text("3")), none}, {"holds", row(num(1), num(1), yes), none}, {"holds", row(num(1), yes, num(1)), none},
	})
}

// A text within an element may be longer than an item may be: what would be such an item has no value, all else does.
func TestLongText(t *testing.T) {
	long := strings.Repeat("é", api.MaxText/2)
	l := []api.Node{
		{Kind: api.Elem, Name: "a", Size: 3, Parent: -1},
		{Kind: api.Text, Value: long, Level: 1}, {Kind: api.Text, Value: "z", Level: 1}, {Kind: api.Comment, Value: "c", Level: 1},
	}
	calls(t, l, []call{
		{"data", row(node(0)), none}, {"string", row(node(0)), none}, {"data", row(node(1)), text(long)},
		{"length", row(node(0)), num(api.MaxText/2 + 1)}, {"contains", row(node(0), text("éz")), yes}, {"=", row(node(0), node(0)), yes},
		{"substring", row(node(0), num(api.MaxText/2), num(9)), text("éz")}, {"substring", row(node(0), num(1), num(api.MaxText)), none},
		{"integer", row(node(0)), none}, {"concat", row(node(0), text("")), none}, {"ebv", row(node(0), num(1)), yes},
	})
}
