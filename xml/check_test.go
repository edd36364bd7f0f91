package xml_test

import (
	"strings"
	"testing"

	"pleacher/api"
	"pleacher/xml"
)

func start(name string) api.Event       { return api.Event{Kind: api.Start, Name: name} }
func attr(name, value string) api.Event { return api.Event{Kind: api.Attr, Name: name, Value: value} }
func text(value string) api.Event       { return api.Event{Kind: api.Text, Value: value} }
func comment(value string) api.Event    { return api.Event{Kind: api.Comment, Value: value} }
func end() api.Event                    { return api.Event{Kind: api.End} }

func events(l ...api.Event) []api.Event { return l }

// within an element: the events, with a Start ahead and an End behind.
func within(l ...api.Event) []api.Event {
	return append(append(events(start("r")), l...), end())
}

// P1.1
func TestCheckName(t *testing.T) {
	for _, c := range []struct {
		s    string
		want api.Errno
	}{
		{"a", api.OK}, {"z", api.OK}, {"A", api.OK}, {"Z", api.OK}, {"_", api.OK},
		{"a0", api.OK}, {"a9", api.OK}, {"a-", api.OK}, {"a.", api.OK}, {"_.-9zZ", api.OK},
		{strings.Repeat("a", api.MaxName), api.OK},
		{"", api.ErrSize},
		{strings.Repeat("a", api.MaxName+1), api.ErrSize},
		{strings.Repeat("!", api.MaxName+1), api.ErrSize},
		{"0", api.ErrName}, {"9a", api.ErrName}, {"-a", api.ErrName}, {".a", api.ErrName},
		{"a b", api.ErrName}, {"a:b", api.ErrName}, {"a/", api.ErrName},
		{"`", api.ErrName}, {"{", api.ErrName}, {"@", api.ErrName}, {"[", api.ErrName},
		{"é", api.ErrName}, {"aé", api.ErrName}, {"a\xff", api.ErrName}, {"a\x00", api.ErrName}, {"a,", api.ErrName},
	} {
		if got := xml.CheckName(c.s); got != c.want {
			t.Errorf("CheckName(%q): %d, want %d", c.s, got, c.want)
		}
	}
}

// Each byte, as the first one and behind it, held against the promise's own words.
func TestCheckNameBytes(t *testing.T) {
	const first = "abcdefghijklmnopqrstuvwxyzABCDEFGHIJKLMNOPQRSTUVWXYZ_"
	const behind = first + "0123456789-."
	for i := range 256 {
		c := string([]byte{byte(i)})
		if got, want := xml.CheckName(c) == api.OK, strings.Contains(first, c); got != want {
			t.Errorf("%q as a name: %v", c, got)
		}
		if got, want := xml.CheckName("a"+c) == api.OK, strings.Contains(behind, c); got != want {
			t.Errorf("%q behind the first byte of a name: %v", c, got)
		}
	}
}

// P1.1
func TestCheckText(t *testing.T) {
	for _, c := range []struct {
		s    string
		want api.Errno
	}{
		{"", api.OK}, {"a b", api.OK}, {"\t\n", api.OK}, {"<&>\"--", api.OK}, {"\x7f", api.OK},
		{"é", api.OK}, {"\u20ac\U0001f333", api.OK}, {"\ufffd", api.OK}, {"\ufeff", api.OK},
		{strings.Repeat("a", api.MaxText), api.OK},
		{strings.Repeat("a", api.MaxText+1), api.ErrSize},
		{strings.Repeat("é", api.MaxText/2+1), api.ErrSize},
		{strings.Repeat("\xff", api.MaxText+1), api.ErrSize},
		{"\x00", api.ErrForm}, {"\x08", api.ErrForm}, {"\x0b", api.ErrForm}, {"a\r", api.ErrForm}, {"\x1f", api.ErrForm},
		{"\xff", api.ErrForm}, {"a\xc3", api.ErrForm}, {"\xa9", api.ErrForm}, {"\xc0\x80", api.ErrForm},
		{"\xed\xa0\x80", api.ErrForm}, {"\xf4\x90\x80\x80", api.ErrForm},
	} {
		if got := xml.CheckText(c.s); got != c.want {
			t.Errorf("CheckText(%.20q): %d, want %d", c.s, got, c.want)
		}
	}
}

type checkCase struct {
	what string
	l    []api.Event
	want api.Errno
}

func runCheck(t *testing.T, l []checkCase) {
	t.Helper()
	for _, c := range l {
		if got := xml.Check(c.l); got != c.want {
			t.Errorf("Check, %s: %d, want %d", c.what, got, c.want)
		}
	}
}

// P1.2
func TestCheckDocuments(t *testing.T) {
	runCheck(t, []checkCase{
		{"one element", within(), api.OK},
		{"all kinds", within(attr("k", ""), attr("l", "<"), text("x"), comment(""), text(" "), start("r"), end(), text("y")), api.OK},
		{"the same attribute of another element", within(attr("k", ""), start("a"), attr("k", ""), end(), start("a"), attr("k", ""), end()), api.OK},
		{"texts with something between", within(text("x"), comment("c"), text("x"), start("a"), end(), text("x")), api.OK},
		{"a comment with single -", within(comment("-a-b")), api.OK},
		{"no events", nil, api.ErrShort},
		{"an empty list", events(), api.ErrShort},
		{"an open element", events(start("r")), api.ErrShort},
		{"an open element within", events(start("r"), start("a"), end()), api.ErrShort},
	})
}

// P1.2
func TestCheckWrong(t *testing.T) {
	long := strings.Repeat("a", api.MaxName+1)
	runCheck(t, []checkCase{
		{"kind 0", within(api.Event{}), api.ErrKind},
		{"kind 6", within(api.Event{Kind: 6}), api.ErrKind},
		{"kind -1", within(api.Event{Kind: -1}), api.ErrKind},
		{"a text first", events(text("x")), api.ErrForm},
		{"an attribute first", events(attr("k", "")), api.ErrForm},
		{"a comment first", events(comment("c")), api.ErrForm},
		{"an end first", events(end()), api.ErrForm},
		{"a second root", append(within(), within()...), api.ErrForm},
		{"a text behind all", append(within(), text("x")), api.ErrForm},
		{"an end too many", append(within(), end()), api.ErrForm},
		{"a start's name", events(start("1"), end()), api.ErrName},
		{"a start without one", events(start(""), end()), api.ErrSize},
		{"a start's long name", events(start(long), end()), api.ErrSize},
		{"an attribute's name", within(attr("a b", "")), api.ErrName},
		{"an attribute without one", within(attr("", "")), api.ErrSize},
		{"a text's name", within(api.Event{Kind: api.Text, Name: "a", Value: "x"}), api.ErrForm},
		{"a comment's name", within(api.Event{Kind: api.Comment, Name: "a"}), api.ErrForm},
		{"an end's name", events(start("a"), api.Event{Kind: api.End, Name: "a"}), api.ErrForm},
		{"a start's value", events(api.Event{Kind: api.Start, Name: "a", Value: "x"}, end()), api.ErrForm},
		{"an end's value", events(start("a"), api.Event{Kind: api.End, Value: "x"}), api.ErrForm},
		{"an attribute's value", within(attr("a", "\x01")), api.ErrForm},
		{"a text's value", within(text("\xff")), api.ErrForm},
		{"a comment's value", within(comment("\r")), api.ErrForm},
		{"a long attribute", within(attr("a", strings.Repeat("x", api.MaxText+1))), api.ErrSize},
		{"a long text", within(text(strings.Repeat("x", api.MaxText+1))), api.ErrSize},
		{"a long comment", within(comment(strings.Repeat("x", api.MaxText+1))), api.ErrSize},
		{"an attribute behind a text", within(text("x"), attr("k", "")), api.ErrForm},
		{"an attribute behind a comment", within(comment("x"), attr("k", "")), api.ErrForm},
		{"an attribute behind an end", within(start("a"), end(), attr("k", "")), api.ErrForm},
		{"an attribute twice", within(attr("k", "1"), attr("k", "2")), api.ErrTwice},
		{"an attribute twice, one between", within(attr("k", "1"), attr("l", ""), attr("k", "1")), api.ErrTwice},
		{"an empty text", within(text("")), api.ErrForm},
		{"two texts", within(text("x"), text("y")), api.ErrForm},
		{"a comment with --", within(comment("a--b")), api.ErrForm},
		{"a comment with - at its end", within(comment("a-")), api.ErrForm},
		{"a comment that is -", within(comment("-")), api.ErrForm},
	})
}

// P1.2: which of several errors is told.
func TestCheckOrder(t *testing.T) {
	runCheck(t, []checkCase{
		{"the event ahead of the next one", within(text(""), api.Event{}), api.ErrForm},
		{"an event ahead of what is open at last", events(start("r"), api.Event{}), api.ErrKind},
		{"the kind ahead of the place", events(api.Event{Kind: 9, Name: "a"}), api.ErrKind},
		{"the place ahead of the name", append(within(), start("1")), api.ErrForm},
		{"the place ahead of the size of the name", events(attr("", "")), api.ErrForm},
		{"the name ahead of the value", within(attr("1", "\xff")), api.ErrName},
		{"the name ahead of a start's value", events(api.Event{Kind: api.Start, Name: "1", Value: "x"}), api.ErrName},
		{"the name ahead of an attribute's place", within(text("x"), attr("1", "")), api.ErrName},
		{"a text's name ahead of its size", within(api.Event{Kind: api.Text, Name: "a", Value: strings.Repeat("x", api.MaxText+1)}), api.ErrForm},
		{"the size of a value ahead of an attribute's place", within(text("x"), attr("k", strings.Repeat("x", api.MaxText+1))), api.ErrSize},
		{"the size of a value ahead of twice", within(attr("k", ""), attr("k", strings.Repeat("x", api.MaxText+1))), api.ErrSize},
		{"the size of a text ahead of the text ahead", within(text("x"), text(strings.Repeat("x", api.MaxText+1))), api.ErrSize},
		{"the size of a comment ahead of its -", within(comment(strings.Repeat("-", api.MaxText+1))), api.ErrSize},
		{"an attribute's place ahead of twice", within(attr("k", ""), text("x"), attr("k", "")), api.ErrForm},
		{"a name ahead of depth", append(nested(api.MaxDepth), start("1")), api.ErrName},
	})
}

func nested(n int) []api.Event {
	var l []api.Event
	for range n {
		l = append(l, start("a"))
	}
	return l
}

// P1.2: the limits, each at its edge.
func TestCheckLimits(t *testing.T) {
	deep := func(n int) []api.Event {
		l := nested(n)
		for range n {
			l = append(l, end())
		}
		return l
	}
	var children []api.Event
	for len(children) < api.MaxEvents-2 {
		children = append(children, start("a"), end())
	}
	runCheck(t, []checkCase{
		{"as deep as may be", deep(api.MaxDepth), api.OK},
		{"too deep", deep(api.MaxDepth + 1), api.ErrDeep},
		{"deep twice", within(append(deep(api.MaxDepth-1), deep(api.MaxDepth-1)...)...), api.OK},
		{"as many as may be", within(children...), api.OK},
		{"too many", within(append(children, text("x"))...), api.ErrSize},
		{"too many, ahead of their kinds", make([]api.Event, api.MaxEvents+1), api.ErrSize},
	})
}
