package store_test

import (
	"slices"
	"strings"
	"testing"

	"pleacher/api"
	"pleacher/store"
	"pleacher/xml"
)

func parse(t *testing.T, s string) []api.Event {
	t.Helper()
	l, e := xml.Parse(s)
	if e != api.OK {
		t.Fatalf("Parse(%q): %d", s, e)
	}
	return l
}

func shred(t *testing.T, s string) []api.Node {
	t.Helper()
	l, e := store.Shred(parse(t, s))
	if e != api.OK {
		t.Fatalf("Shred(%q): %d", s, e)
	}
	return l
}

func doc(size int) api.Node { return api.Node{Kind: api.Doc, Size: size, Parent: -1} }

func elem(name string, size, level, parent int) api.Node {
	return api.Node{Kind: api.Elem, Name: name, Size: size, Level: level, Parent: parent}
}

func attr(name, value string, level, parent int) api.Node {
	return api.Node{Kind: api.Attr, Name: name, Value: value, Level: level, Parent: parent}
}

func text(value string, level, parent int) api.Node {
	return api.Node{Kind: api.Text, Value: value, Level: level, Parent: parent}
}

func comment(value string, level, parent int) api.Node {
	return api.Node{Kind: api.Comment, Value: value, Level: level, Parent: parent}
}

func nodes(l ...api.Node) []api.Node { return l }

// P2.1
func TestShred(t *testing.T) {
	for _, c := range []struct {
		s    string
		want []api.Node
	}{
		{"<r/>", nodes(doc(1), elem("r", 0, 1, 0))},
		{`<r k="1" l=""/>`, nodes(doc(3), elem("r", 2, 1, 0), attr("k", "1", 2, 1), attr("l", "", 2, 1))},
		{"<r>x<!--c-->y</r>", nodes(doc(4), elem("r", 3, 1, 0), text("x", 2, 1), comment("c", 2, 1), text("y", 2, 1))},
		{"<r><a/><a/></r>", nodes(doc(3), elem("r", 2, 1, 0), elem("a", 0, 2, 1), elem("a", 0, 2, 1))},
		{"<r><a><b/></a></r>", nodes(doc(3), elem("r", 2, 1, 0), elem("a", 1, 2, 1), elem("b", 0, 3, 2))},
		{
			`<r><a k="&lt;"><b>x</b>y</a><c/>z</r>`,
			nodes(doc(8), elem("r", 7, 1, 0), elem("a", 4, 2, 1), attr("k", "<", 3, 2), elem("b", 1, 3, 2),
				text("x", 4, 4), text("y", 3, 2), elem("c", 0, 2, 1), text("z", 2, 1)),
		},
	} {
		if got := shred(t, c.s); !slices.Equal(got, c.want) {
			t.Errorf("%s: %v, want %v", c.s, got, c.want)
		}
	}
}

// P2.1: what xml's Check refuses, with its own error.
func TestShredWrong(t *testing.T) {
	start, end := api.Event{Kind: api.Start, Name: "a"}, api.Event{Kind: api.End}
	k := api.Event{Kind: api.Attr, Name: "k"}
	for _, c := range []struct {
		l    []api.Event
		want api.Errno
	}{
		{nil, api.ErrShort},
		{[]api.Event{start}, api.ErrShort},
		{[]api.Event{end}, api.ErrForm},
		{[]api.Event{start, end, end}, api.ErrForm},
		{[]api.Event{start, end, start, end}, api.ErrForm},
		{[]api.Event{start, {Kind: api.Doc}, end}, api.ErrKind},
		{[]api.Event{start, k, k, end}, api.ErrTwice},
		{[]api.Event{{Kind: api.Start, Name: "1"}, end}, api.ErrName},
		{slices.Repeat([]api.Event{start}, api.MaxDepth+1), api.ErrDeep},
		{slices.Repeat([]api.Event{start}, api.MaxEvents+1), api.ErrSize},
	} {
		if got, e := store.Shred(c.l); len(got) > 0 || e != c.want {
			t.Errorf("Shred(%.80v): %v %d, want %d", c.l, got, e, c.want)
		}
	}
}

// P2.1: the greatest documents.
func TestShredLimits(t *testing.T) {
	deep := strings.Repeat("<a>", api.MaxDepth) + strings.Repeat("</a>", api.MaxDepth)
	l := shred(t, deep)
	for i, x := range l {
		if x.Level != i || x.Parent != i-1 || x.Size != api.MaxDepth-i {
			t.Errorf("node %d: %v", i, x)
		}
	}
	wide := shred(t, "<r>"+strings.Repeat("<a/>", api.MaxEvents/2-1)+"</r>")
	if len(wide) != api.MaxEvents/2+1 || wide[0].Size != api.MaxEvents/2 || wide[1].Size != api.MaxEvents/2-1 {
		t.Errorf("%d nodes, %v %v", len(wide), wide[0], wide[1])
	}
}
