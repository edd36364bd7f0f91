package store_test

import (
	"slices"
	"strings"
	"testing"

	"pleacher/api"
	"pleacher/store"
	"pleacher/xml"
)

type outcome struct {
	what string
	has  bool // is there something beside the error?
	e    api.Errno
}

// outcomes of all calls that ask for one node.
func outcomes(l []api.Node, n int, to []api.Node, parent int) []outcome {
	s, e := store.Text(l, n)
	c, f := store.Copy(l, n, to, parent)
	v, g := store.Events(l, n)
	return []outcome{{"Text", s != "", e}, {"Copy", len(c) > 0, f}, {"Events", len(v) > 0, g}}
}

// P2.3
func TestRefused(t *testing.T) {
	l := shred(t, "<r>x</r>")
	wrong := append(slices.Clone(l), text("x", 1, 0))
	for _, c := range []struct {
		what string
		l    []api.Node
		n    int
		want api.Errno
	}{
		{"a node that is not there", l, 3, api.ErrNone},
		{"the node -1", l, -1, api.ErrNone},
		{"the greatest place", l, most, api.ErrNone},
		{"the least place", l, least, api.ErrNone},
		{"no nodes", nil, 0, api.ErrNone},
		{"wrong nodes", wrong, 2, api.ErrForm},
		{"wrong nodes ahead of no such node", wrong, 9, api.ErrForm},
		{"too many nodes", many(api.MaxNodes + 1), 0, api.ErrSize},
		{"too many nodes ahead of no such node", many(api.MaxNodes + 1), -1, api.ErrSize},
	} {
		for _, o := range outcomes(c.l, c.n, l, -1) {
			if o.e != c.want || o.has {
				t.Errorf("%s, %s: %d, want %d", o.what, c.what, o.e, c.want)
			}
		}
	}
}

// P2.4
func TestText(t *testing.T) {
	l := shred(t, `<r k="1&lt;">a<!--c--><b m="2">bé<c/>d</b><e/> f</r>`)
	for n, want := range []string{"abéd f", "abéd f", "1<", "a", "c", "béd", "2", "bé", "", "d", "", " f"} {
		if got, e := store.Text(l, n); got != want || e != api.OK {
			t.Errorf("node %d: %q %d, want %q", n, got, e, want)
		}
	}
	if got, e := store.Text(nodes(doc(0)), 0); got != "" || e != api.OK {
		t.Errorf("an empty Doc: %q %d", got, e)
	}
	if got, e := store.Text(nodes(doc(2), text("x", 1, 0), text("y", 1, 0), text("z", 0, -1)), 0); got != "xy" || e != api.OK {
		t.Errorf("a Doc of Texts, and one behind it: %q %d", got, e)
	}
}

// P2.4: texts may be longer in all than one of them may be.
func TestTextLong(t *testing.T) {
	long := strings.Repeat("x", api.MaxText)
	got, e := store.Text(nodes(elem("a", 2, 0, -1), text(long, 1, 0), text(long, 1, 0)), 0)
	if got != long+long || e != api.OK {
		t.Errorf("%d bytes, %d", len(got), e)
	}
}

// P2.5
func TestCopy(t *testing.T) {
	l := shred(t, `<r><a k="1"><b>x</b></a>y</r>`) // 0 Doc, 1 r, 2 a, 3 k, 4 b, 5 x, 6 y
	odd := nodes(api.Node{Kind: 99, Name: "?", Value: "\xff", Size: -5, Level: 7, Parent: 44}, elem("e", 0, 0, -1))
	for _, c := range []struct {
		what   string
		n      int
		to     []api.Node
		parent int
		want   []api.Node
	}{
		{"a Text to nothing", 6, nil, -1, nodes(text("y", 0, -1))},
		{"an Attr to nothing", 3, nil, -1, nodes(attr("k", "1", 0, -1))},
		{"an Elem to nothing", 2, nil, -1, nodes(elem("a", 3, 0, -1), attr("k", "1", 1, 0), elem("b", 1, 1, 0), text("x", 2, 2))},
		{"an Elem, without a parent", 4, odd, -1, append(slices.Clone(odd), elem("b", 1, 0, -1), text("x", 1, 2))},
		{"an Elem into an Elem", 2, odd, 1, append(slices.Clone(odd), elem("a", 3, 1, 1), attr("k", "1", 2, 2), elem("b", 1, 2, 2), text("x", 3, 4))},
		{"an Attr into whatever there is", 3, odd, 0, append(slices.Clone(odd), attr("k", "1", 8, 0))},
		{"an Elem into whatever there is", 4, odd, 0, append(slices.Clone(odd), elem("b", 1, 8, 0), text("x", 9, 2))},
		{"into the document itself", 4, l, 1, append(slices.Clone(l), elem("b", 1, 2, 1), text("x", 3, 7))},
		{"the first Elem", 1, odd, 1, append(slices.Clone(odd), elem("r", 5, 1, 1), elem("a", 3, 2, 2), attr("k", "1", 3, 3), elem("b", 1, 3, 3), text("x", 4, 5), text("y", 2, 2))},
	} {
		if got, e := store.Copy(l, c.n, c.to, c.parent); !slices.Equal(got, c.want) || e != api.OK {
			t.Errorf("%s: %v %d, want %v", c.what, got, e, c.want)
		}
	}
	if _, e := store.Copy(l, 2, nodes(api.Node{Level: most}), 0); e != api.OK {
		t.Errorf("below the greatest Level: %d", e)
	}
}

// P2.5: errors, and which of several is told.
func TestCopyWrong(t *testing.T) {
	l := shred(t, "<r><a/></r>")
	full := many(api.MaxNodes)
	for _, c := range []struct {
		what   string
		n      int
		to     []api.Node
		parent int
		want   api.Errno
	}{
		{"a Doc", 0, nil, -1, api.ErrKind},
		{"no such parent", 1, l, 3, api.ErrRange},
		{"no such parent of none", 1, nil, 0, api.ErrRange},
		{"the parent -2", 1, l, -2, api.ErrRange},
		{"the least parent", 1, l, least, api.ErrRange},
		{"the greatest parent", 1, l, most, api.ErrRange},
		{"no room", 2, full, -1, api.ErrSize},
		{"room for one of two", 1, full[1:], -1, api.ErrSize},
		{"more than may be already", 2, many(api.MaxNodes + 5), 0, api.ErrSize},
		{"a place that is not there ahead of the parent", 3, l, -2, api.ErrNone},
		{"a Doc ahead of the parent", 0, l, -2, api.ErrKind},
		{"the parent ahead of room", 1, full, -2, api.ErrRange},
		{"a Doc ahead of room", 0, full, -1, api.ErrKind},
	} {
		if got, e := store.Copy(l, c.n, c.to, c.parent); len(got) > 0 || e != c.want {
			t.Errorf("%s: %d nodes, %d, want %d", c.what, len(got), e, c.want)
		}
	}
	if got, e := store.Copy(l, 1, full[2:], -1); len(got) != api.MaxNodes || e != api.OK {
		t.Errorf("just room enough: %d nodes, %d", len(got), e)
	}
}

// P2.6
func TestEvents(t *testing.T) {
	const a = `<a k="1"><b>x</b><b/></a>`
	const r = "<r>" + a + "y<!--c--><d/></r>"
	l := shred(t, r) // 0 Doc, 1 r, 2 a, 3 k, 4 b, 5 x, 6 b, 7 y, 8 c, 9 d
	for n, want := range [][]api.Event{
		parse(t, r), parse(t, r), parse(t, a), {{Kind: api.Attr, Name: "k", Value: "1"}}, parse(t, "<b>x</b>"),
		{{Kind: api.Text, Value: "x"}}, parse(t, "<b/>"), {{Kind: api.Text, Value: "y"}}, {{Kind: api.Comment, Value: "c"}}, parse(t, "<d/>"),
	} {
		if got, e := store.Events(l, n); !slices.Equal(got, want) || e != api.OK {
			t.Errorf("node %d: %v %d, want %v", n, got, e, want)
		}
	}
	two := nodes(doc(3), elem("a", 0, 1, 0), comment("c", 1, 0), elem("b", 0, 1, 0), text("x", 0, -1))
	want := append(append(parse(t, "<a/>"), api.Event{Kind: api.Comment, Value: "c"}), parse(t, "<b/>")...)
	if got, e := store.Events(two, 0); !slices.Equal(got, want) || e != api.OK {
		t.Errorf("a Doc with several: %v %d, want %v", got, e, want)
	}
	if got, e := store.Events(nodes(doc(0)), 0); len(got) > 0 || e != api.OK {
		t.Errorf("an empty Doc: %v %d", got, e)
	}
}

// P2.6: there may be more events than a document has.
func TestEventsMany(t *testing.T) {
	l := nodes(doc(api.MaxNodes - 1))
	for range api.MaxNodes - 1 {
		l = append(l, elem("a", 0, 1, 0))
	}
	got, e := store.Events(l, 0)
	if len(got) != 2*(api.MaxNodes-1) || e != api.OK {
		t.Errorf("%d events, %d", len(got), e)
	}
	if e := xml.Check(got); e != api.ErrSize {
		t.Errorf("as a document: %d", e)
	}
}
