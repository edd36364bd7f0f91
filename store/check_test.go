package store_test

import (
	"slices"
	"strings"
	"testing"

	"pleacher/api"
	"pleacher/store"
)

func many(n int) []api.Node { return slices.Repeat(nodes(text("", 0, -1)), n) }

// P2.2: nodes that may be.
func TestCheck(t *testing.T) {
	for _, c := range []struct {
		what string
		l    []api.Node
	}{
		{"no nodes", nil},
		{"a document", shred(t, `<r k="1" l="2">x<a m="1"/><!--c--></r>`)},
		{"a Doc", nodes(doc(0))},
		{"an Elem", nodes(elem("a", 0, 0, -1))},
		{"an Attr without a Parent", nodes(attr("k", "1", 0, -1))},
		{"a Text without a Parent", nodes(text("x", 0, -1))},
		{"a Comment without a Parent", nodes(comment("x", 0, -1))},
		{"trees, one behind the other", nodes(text("x", 0, -1), attr("k", "", 0, -1), elem("a", 1, 0, -1), elem("b", 0, 1, 2), attr("k", "", 0, -1), doc(1), text("x", 1, 5), doc(0))},
		{"a Doc with several", nodes(doc(4), text("x", 1, 0), elem("a", 0, 1, 0), comment("c", 1, 0), elem("a", 0, 1, 0))},
		{"an empty Text", nodes(text("", 0, -1))},
		{"two Texts", nodes(elem("a", 2, 0, -1), text("x", 1, 0), text("y", 1, 0))},
		{"a Comment with --", nodes(comment("a--b-", 0, -1))},
		{"two Attrs of one name", nodes(elem("a", 2, 0, -1), attr("k", "", 1, 0), attr("k", "", 1, 0))},
		{"an Attr behind an Attr that is not in the same Elem", nodes(elem("a", 3, 0, -1), elem("b", 1, 1, 0), attr("k", "", 2, 1), attr("k", "", 1, 0))},
		{"a long value", nodes(text(strings.Repeat("x", api.MaxText), 0, -1))},
		{"a long name", nodes(elem(strings.Repeat("x", api.MaxName), 0, 0, -1))},
		{"as many as may be", many(api.MaxNodes)},
	} {
		if e := store.Check(c.l); e != api.OK {
			t.Errorf("%s: %d", c.what, e)
		}
	}
}

// P2.2: what one node has of its own.
func TestCheckNode(t *testing.T) {
	for _, x := range []api.Node{
		{}, {Kind: -1}, {Kind: api.End}, {Kind: 7},
		{Kind: api.Elem}, {Kind: api.Elem, Name: "1"}, {Kind: api.Elem, Name: strings.Repeat("a", api.MaxName+1)},
		{Kind: api.Attr}, {Kind: api.Attr, Name: "a b"}, {Kind: api.Attr, Name: strings.Repeat("a", api.MaxName+1)},
		{Kind: api.Text, Name: "a"}, {Kind: api.Comment, Name: "a"}, {Kind: api.Doc, Name: "a"},
		{Kind: api.Elem, Name: "a", Value: "x"}, {Kind: api.Doc, Value: "x"},
		{Kind: api.Attr, Name: "a", Value: "\r"}, {Kind: api.Text, Value: "\xff"}, {Kind: api.Comment, Value: "\x00"},
		{Kind: api.Attr, Name: "a", Value: strings.Repeat("x", api.MaxText+1)},
		{Kind: api.Text, Value: strings.Repeat("x", api.MaxText+1)},
		{Kind: api.Comment, Value: strings.Repeat("x", api.MaxText+1)},
	} {
		x.Parent = -1
		if e := store.Check(nodes(x)); e != api.ErrForm {
			t.Errorf("%.80v: %d", x, e)
		}
	}
}

const (
	least = -1 << 63
	most  = 1<<63 - 1
)

// P2.2: how nodes stand to one another.
func TestCheckTrees(t *testing.T) {
	for _, c := range []struct {
		what string
		l    []api.Node
	}{
		{"a size below 0", nodes(elem("a", -1, 0, -1))},
		{"the least size", nodes(elem("a", least, 0, -1))},
		{"the size of one too many", nodes(elem("a", 1, 0, -1))},
		{"the greatest size", nodes(elem("a", most, 0, -1))},
		{"the size of one too many, within", nodes(doc(1), elem("a", 1, 1, 0))},
		{"an Attr with a size", nodes(api.Node{Kind: api.Attr, Name: "a", Size: 1, Parent: -1}, text("x", 1, 0))},
		{"a Text with a size", nodes(api.Node{Kind: api.Text, Size: 1, Parent: -1}, text("x", 1, 0))},
		{"a Comment with a size", nodes(api.Node{Kind: api.Comment, Size: 1, Parent: -1}, text("x", 1, 0))},
		{"a Text with a size below 0", nodes(api.Node{Kind: api.Text, Size: -1, Parent: -1})},
		{"a Parent that is none", nodes(elem("a", 0, 0, -1), text("x", 1, 0))},
		{"a Parent that is not told", nodes(elem("a", 1, 0, -1), text("x", 0, -1))},
		{"a Parent that is not the nearest", nodes(doc(2), elem("a", 1, 1, 0), text("x", 1, 0))},
		{"the Parent of one behind it", nodes(elem("a", 1, 0, -1), elem("b", 0, 1, 0), text("x", 1, 0))},
		{"itself as a Parent", nodes(elem("a", 0, 0, 0))},
		{"one behind as a Parent", nodes(elem("a", 0, 0, 1), elem("b", 0, 0, -1))},
		{"the Parent -2", nodes(text("x", 0, -2))},
		{"the greatest Parent", nodes(text("x", 0, most))},
		{"the Level 1 without a Parent", nodes(text("x", 1, -1))},
		{"the Level -1", nodes(text("x", -1, -1))},
		{"the Level of the Parent", nodes(elem("a", 1, 0, -1), text("x", 0, 0))},
		{"two Levels more than the Parent's", nodes(elem("a", 1, 0, -1), text("x", 2, 0))},
		{"the end behind the Parent's", nodes(elem("a", 1, 0, -1), elem("b", 1, 1, 0), text("x", 2, 1))},
		{"a Doc in a Doc", nodes(doc(1), api.Node{Kind: api.Doc, Level: 1})},
		{"a Doc in an Elem", nodes(elem("a", 1, 0, -1), api.Node{Kind: api.Doc, Level: 1})},
		{"an Attr in a Doc", nodes(doc(1), attr("k", "", 1, 0))},
		{"an Attr in a Doc, behind an Attr", nodes(doc(3), elem("a", 1, 1, 0), attr("k", "", 2, 1), attr("k", "", 1, 0))},
		{"an Attr behind a Text", nodes(elem("a", 2, 0, -1), text("x", 1, 0), attr("k", "", 1, 0))},
		{"an Attr behind a Comment", nodes(elem("a", 2, 0, -1), comment("x", 1, 0), attr("k", "", 1, 0))},
		{"an Attr behind an Elem", nodes(elem("a", 2, 0, -1), elem("b", 0, 1, 0), attr("k", "", 1, 0))},
		{"an Attr behind an Attr and a Text", nodes(elem("a", 3, 0, -1), attr("k", "", 1, 0), text("x", 1, 0), attr("l", "", 1, 0))},
		{"a wrong one behind right ones", append(shred(t, `<r k="1">x</r>`), text("x", 1, 0))},
	} {
		if e := store.Check(c.l); e != api.ErrForm {
			t.Errorf("%s: %d", c.what, e)
		}
	}
}

// P2.2: the number of nodes is asked ahead of all else.
func TestCheckSize(t *testing.T) {
	for _, l := range [][]api.Node{many(api.MaxNodes + 1), make([]api.Node, api.MaxNodes+1)} {
		if e := store.Check(l); e != api.ErrSize {
			t.Errorf("%d nodes: %d", len(l), e)
		}
	}
	if e := store.Check(make([]api.Node, api.MaxNodes)); e != api.ErrForm {
		t.Errorf("as many as may be, but wrong: %d", e)
	}
}

// A chain as deep as there may be nodes, and its like with a leaf behind each level, take no long time.
func TestCheckDeep(t *testing.T) {
	var l []api.Node
	for i := range api.MaxNodes {
		l = append(l, elem("a", api.MaxNodes-1-i, i, i-1))
	}
	if e := store.Check(l); e != api.OK {
		t.Errorf("a chain: %d", e)
	}
	half := api.MaxNodes / 2
	l = nil
	for i := range half {
		l = append(l, elem("a", 2*(half-i)-1, i, i-1))
	}
	for i := half - 1; i >= 0; i-- {
		l = append(l, text("x", i+1, i))
	}
	if e := store.Check(l); e != api.OK {
		t.Errorf("a chain with leaves: %d", e)
	}
}
