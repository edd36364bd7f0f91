package xml_test

import (
	"slices"
	"strings"
	"testing"

	"pleacher/api"
	"pleacher/xml"
)

// P1.3
func TestEscape(t *testing.T) {
	for _, c := range []struct{ s, want string }{
		{"", ""}, {"abc", "abc"}, {"'\t\n;#", "'\t\n;#"},
		{"&", "&amp;"}, {"<", "&lt;"}, {">", "&gt;"}, {`"`, "&quot;"},
		{"&amp;", "&amp;amp;"}, {"&lt", "&amp;lt"},
		{`a<b>&"c"é`, "a&lt;b&gt;&amp;&quot;c&quot;é"},
		{"\xff<\x00", "\xff&lt;\x00"},
		{strings.Repeat("<", 3*api.MaxText), strings.Repeat("&lt;", 3*api.MaxText)},
	} {
		if got := xml.Escape(c.s); got != c.want {
			t.Errorf("Escape(%.20q): %.80q, want %.80q", c.s, got, c.want)
		}
	}
}

// P1.3
func TestShow(t *testing.T) {
	for _, c := range []struct {
		l    []api.Event
		want string
	}{
		{within(), "<r/>"},
		{within(attr("k", "")), `<r k=""/>`},
		{within(attr("k", `<&>"'`), attr("l", "\n")), "<r k=\"&lt;&amp;&gt;&quot;'\" l=\"\n\"/>"},
		{within(text(`<&>"'`)), "<r>&lt;&amp;&gt;&quot;'</r>"},
		{within(attr("k", "1"), text("x")), `<r k="1">x</r>`},
		{within(comment(`<&>"`)), `<r><!--<&>"--></r>`},
		{within(comment("")), "<r><!----></r>"},
		{within(attr("k", "1"), comment("c")), `<r k="1"><!--c--></r>`},
		{within(start("a"), end()), "<r><a/></r>"},
		{within(start("a"), end(), start("b"), text("x"), end(), text("y")), "<r><a/><b>x</b>y</r>"},
		{within(attr("k", "1"), start("a"), start("b"), end(), end()), `<r k="1"><a><b/></a></r>`},
	} {
		got, e := xml.Show(c.l)
		if got != c.want || e != api.OK {
			t.Errorf("Show(%v): %q %d, want %q", c.l, got, e, c.want)
		}
	}
}

// P1.3: no text comes with an error, not even of what could be shown.
func TestShowWrong(t *testing.T) {
	for _, c := range []struct {
		l    []api.Event
		want api.Errno
	}{
		{nil, api.ErrShort},
		{events(start("r")), api.ErrShort},
		{events(start("r"), attr("k", "1")), api.ErrShort},
		{within(api.Event{}), api.ErrKind},
		{within(attr("1", "")), api.ErrName},
		{within(attr("k", ""), attr("k", "")), api.ErrTwice},
		{within(text("x"), text("y")), api.ErrForm},
		{nested(api.MaxDepth + 1), api.ErrDeep},
		{make([]api.Event, api.MaxEvents+1), api.ErrSize},
	} {
		if got, e := xml.Show(c.l); got != "" || e != c.want {
			t.Errorf("Show(%.80v): %q %d, want %d", c.l, got, e, c.want)
		}
	}
}

// A text that is shown may be longer than one that is parsed.
func TestShowLong(t *testing.T) {
	s, e := xml.Show(within(text(strings.Repeat("&", api.MaxText))))
	if e != api.OK || s != "<r>"+strings.Repeat("&amp;", api.MaxText)+"</r>" {
		t.Errorf("%d bytes, %d", len(s), e)
	}
}

// What is handed in stays as it is, its spare room too.
func TestGivenStays(t *testing.T) {
	room := append(within(attr("k", "<"), text("x"), comment("c")), text("spare"), text("room"))
	l := room[:len(room)-2]
	was := slices.Clone(room)
	xml.Check(l)
	xml.Show(l)
	if !slices.Equal(room, was) {
		t.Errorf("%v, was %v", room, was)
	}
}
