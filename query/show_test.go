package query_test

import (
	"slices"
	"strings"
	"testing"

	"pleacher/api"
	"pleacher/query"
	"pleacher/store"
	"pleacher/xml"
)

func num(n int) api.Item { return api.Item{Kind: api.IsInt, N: n} }

func text(s string) api.Item { return api.Item{Kind: api.IsText, S: s} }

func node(n int) api.Item { return api.Item{Kind: api.IsNode, N: n} }

func truth(is bool) api.Item {
	if is {
		return api.Item{Kind: api.IsBool, N: 1}
	}
	return api.Item{Kind: api.IsBool}
}

func shred(t *testing.T, s string) []api.Node {
	t.Helper()
	events, e := xml.Parse(s)
	if e != api.OK {
		t.Fatalf("Parse(%q): %d", s, e)
	}
	l, e := store.Shred(events)
	if e != api.OK {
		t.Fatalf("Shred(%q): %d", s, e)
	}
	return l
}

// show what must be shown.
func show(t *testing.T, l []api.Node, x api.Item, want string) {
	t.Helper()
	was := slices.Clone(l)
	got, e := query.Show(l, x)
	if got != want || e != api.OK {
		t.Errorf("%v: %q %d, want %q", x, got, e, want)
	}
	if !slices.Equal(l, was) {
		t.Errorf("%v: the nodes are %v, they were %v", x, l, was)
	}
}

// P10.1: items that are no nodes, whatever nodes there are.
func TestShowPlain(t *testing.T) {
	for _, l := range [][]api.Node{nil, {}, shred(t, `<r k="1">x</r>`)} {
		for _, c := range []struct {
			x    api.Item
			want string
		}{
			{num(0), "0"},
			{num(7), "7"},
			{num(-120), "-120"},
			{num(api.MaxInt), "1099511627776"},
			{num(-api.MaxInt), "-1099511627776"},
			{truth(true), "true"},
			{truth(false), "false"},
			{text(""), ""},
			{text("0"), "0"},
			{text("a<b>&amp;&\"'\n\té"), "a<b>&amp;&\"'\n\té"},
			{text(strings.Repeat("x", api.MaxText)), strings.Repeat("x", api.MaxText)},
		} {
			show(t, l, c.x, c.want)
		}
	}
}

// P10.1: all nodes of a document.
func TestShowNodes(t *testing.T) {
	const a = `<a k="&lt;&amp;&gt;&quot;'" l="">x &lt; y<b/></a>`
	const c = `<c m="1"/>`
	const whole = `<r>` + a + `<!--< & "-->&gt;&quot;&amp;é` + c + `</r>`
	l := shred(t, whole)
	for n, want := range []string{whole, whole, a, `k="&lt;&amp;&gt;&quot;'"`, `l=""`, "x &lt; y", "<b/>", `<!--< & "-->`, "&gt;&quot;&amp;é", c, `m="1"`} {
		show(t, l, node(n), want)
	}
}

// P10.1: nodes that may be, but in no document that xml's Show would show.
func TestShowOthers(t *testing.T) {
	leaf := func(kind int, name, value string, level, parent int) api.Node {
		return api.Node{Kind: kind, Name: name, Value: value, Level: level, Parent: parent}
	}
	doc := func(size int) api.Node { return api.Node{Kind: api.Doc, Size: size, Parent: -1} }
	elem := func(size, level, parent int) api.Node {
		return api.Node{Kind: api.Elem, Name: "e", Size: size, Level: level, Parent: parent}
	}
	for _, c := range []struct {
		what string
		l    []api.Node
		want string
	}{
		{"an empty document", []api.Node{doc(0)}, ""},
		{"a document of many", []api.Node{doc(4), leaf(api.Text, "", "<", 1, 0), elem(0, 1, 0), elem(0, 1, 0), leaf(api.Comment, "", "c", 1, 0)}, "&lt;<e/><e/><!--c-->"},
		{"an empty text", []api.Node{leaf(api.Text, "", "", 0, -1)}, ""},
		{"an element with an empty text", []api.Node{elem(1, 0, -1), leaf(api.Text, "", "", 1, 0)}, "<e></e>"},
		{"texts side by side", []api.Node{elem(2, 0, -1), leaf(api.Text, "", "a&", 1, 0), leaf(api.Text, "", "b", 1, 0)}, "<e>a&amp;b</e>"},
		{"a comment with -- in it", []api.Node{leaf(api.Comment, "", "a--b<-", 0, -1)}, "<!--a--b<--->"},
		{"an attribute alone", []api.Node{leaf(api.Attr, "k", `"`, 0, -1)}, `k="&quot;"`},
		{"an attribute twice", []api.Node{elem(2, 0, -1), leaf(api.Attr, "k", "1", 1, 0), leaf(api.Attr, "k", "2", 1, 0)}, `<e k="1" k="2"/>`},
		{"one tree of some", []api.Node{elem(1, 0, -1), leaf(api.Text, "", "x", 1, 0), leaf(api.Text, "", "y", 0, -1), elem(0, 0, -1)}, "<e>x</e>"},
	} {
		if e := store.Check(c.l); e != api.OK {
			t.Fatalf("%s: Check tells %d", c.what, e)
		}
		show(t, c.l, node(0), c.want)
	}
}

// nested: so many elements, each within the one ahead.
func nested(many int) []api.Node {
	var l []api.Node
	for n := range many {
		l = append(l, api.Node{Kind: api.Elem, Name: "e", Size: many - 1 - n, Level: n, Parent: n - 1})
	}
	return l
}

// P10.1: more nodes, and deeper ones, than a document may have are shown.
func TestShowGreat(t *testing.T) {
	for _, many := range []int{api.MaxDepth + 1, api.MaxEvents + 1, api.MaxNodes} {
		l := nested(many)
		show(t, l, node(0), strings.Repeat("<e>", many-1)+"<e/>"+strings.Repeat("</e>", many-1))
		show(t, l, node(many-2), "<e><e/></e>")
	}
	wide := nested(1)
	for range api.MaxNodes - 1 {
		wide = append(wide, api.Node{Kind: api.Elem, Name: "a", Level: 1})
	}
	wide[0].Size = api.MaxNodes - 1
	show(t, wide, node(0), "<e>"+strings.Repeat("<a/>", api.MaxNodes-1)+"</e>")
}

// P10.1: what is refused, and which error goes ahead.
func TestShowRefused(t *testing.T) {
	l := shred(t, "<r>x</r>")
	wrong := []api.Node{{Kind: api.Elem, Name: "r"}}
	many := slices.Repeat([]api.Node{{Kind: api.Text, Parent: -1}}, api.MaxNodes+1)
	for _, c := range []struct {
		what string
		l    []api.Node
		x    api.Item
		want api.Errno
	}{
		{"a node behind the last one", l, node(3), api.ErrNone},
		{"the last node that might be", l, node(api.MaxNodes - 1), api.ErrNone},
		{"no nodes", nil, node(0), api.ErrNone},
		{"no item", l, api.Item{}, api.ErrValue},
		{"no such kind", l, api.Item{Kind: 5}, api.ErrValue},
		{"the node -1", l, node(-1), api.ErrValue},
		{"a node that can't be", l, node(api.MaxNodes), api.ErrValue},
		{"a node with a text", l, api.Item{Kind: api.IsNode, N: 9, S: "x"}, api.ErrValue},
		{"too great a number", l, num(api.MaxInt + 1), api.ErrValue},
		{"too small a number", nil, num(-api.MaxInt - 1), api.ErrValue},
		{"no text", l, text("\xff"), api.ErrValue},
		{"too long a text", l, text(strings.Repeat("x", api.MaxText+1)), api.ErrValue},
		{"neither true nor false", l, api.Item{Kind: api.IsBool, N: 2}, api.ErrValue},
		{"wrong nodes", wrong, node(0), api.ErrForm},
		{"wrong nodes, and a number", wrong, num(1), api.ErrForm},
		{"wrong nodes ahead of no item", wrong, api.Item{}, api.ErrForm},
		{"wrong nodes ahead of no such node", wrong, node(1), api.ErrForm},
		{"too many nodes", many, node(0), api.ErrSize},
		{"too many nodes ahead of no item", many, api.Item{}, api.ErrSize},
	} {
		if got, e := query.Show(c.l, c.x); got != "" || e != c.want {
			t.Errorf("%s: %q %d, want %d", c.what, got, e, c.want)
		}
	}
}
