package xml_test

import (
	"slices"
	"strings"
	"testing"

	"pleacher/api"
	"pleacher/xml"
)

// die: numbers that look drawn, the same in each run.
type die uint64

func (d *die) below(n int) int {
	*d = *d*6364136223846793005 + 1442695040888963407
	return int(uint64(*d>>33) % uint64(n))
}

func (d *die) one(l ...string) string { return l[d.below(len(l))] }

func (d *die) some(l ...string) string {
	s := ""
	for range d.below(5) {
		s += d.one(l...)
	}
	return s
}

func (d *die) value() string {
	return d.some("a", "&", "<", ">", `"`, "'", " ", "\n", "\t", "é", "-->", "<!--", "&amp;", "]]>", "/>", "\x7f")
}

// element: the events of one, with elements of at most deep levels.
func (d *die) element(deep int) []api.Event {
	l := events(start(d.one("a", "b-1", "_.", "Zz9")))
	for i := range d.below(3) {
		l = append(l, attr([]string{"k", "l"}[i], d.value()))
	}
	for range d.below(5) {
		switch d.below(3) {
		case 0:
			if deep > 1 {
				l = append(l, d.element(deep-1)...)
			}
		case 1:
			l = append(l, comment(d.some("-c", "&", "<", ">", `"`, "&lt;", " ", "é")))
		default:
			if l[len(l)-1].Kind != api.Text {
				l = append(l, text("x"+d.value()))
			}
		}
	}
	return append(l, end())
}

// What is shown is parsed as it was; what is cut off might go on; what stands behind all is wrong.
func TestShownIsParsed(t *testing.T) {
	d := die(1)
	shown := 0
	for range 400 {
		l := d.element(4)
		s, e := xml.Show(l)
		if len(l) > api.MaxEvents || len(s) > api.MaxXml {
			continue
		}
		if e != api.OK {
			t.Fatalf("Show(%v): %d", l, e)
		}
		shown++
		if got, e := xml.Parse(s); !slices.Equal(got, l) || e != api.OK {
			t.Fatalf("Parse(%q): %v %d, want %v", s, got, e, l)
		}
		for i := range len(s) {
			if got, e := xml.Parse(s[:i]); len(got) > 0 || e != api.ErrShort {
				t.Fatalf("Parse(%q): %v %d, want %d", s[:i], got, e, api.ErrShort)
			}
		}
		refuse(t, api.ErrForm, s+"x", s+" ", s+"<", s+s)
	}
	if shown < 300 {
		t.Errorf("only %d documents were shown", shown)
	}
}

// Whatever is parsed is a document, and shown it is parsed as the same one; whatever is not comes without events.
func TestAnyText(t *testing.T) {
	d := die(2)
	parsed := 0
	for range 30000 {
		s := "<a>" + d.some("<a", ">", "/>", "</a", "<b", "</b", " k=\"", " l=\"", "\"", "&amp;", "&", "<!--", "-->", "--", " ", "x", "\xff", "\x00") + d.one("", "</a>")
		l, e := xml.Parse(s)
		if e != api.OK {
			if len(l) > 0 {
				t.Fatalf("Parse(%q): %v with %d", s, l, e)
			}
			continue
		}
		parsed++
		if e := xml.Check(l); e != api.OK {
			t.Fatalf("Parse(%q): %v, of which Check tells %d", s, l, e)
		}
		shown, _ := xml.Show(l)
		if again, e := xml.Parse(shown); !slices.Equal(again, l) || e != api.OK {
			t.Fatalf("%q, shown %q: %v %d, want %v", s, shown, again, e, l)
		}
	}
	if parsed < 100 {
		t.Errorf("only %d texts were parsed", parsed)
	}
}

// Any events, documents or not: Check and Show agree, and none panics.
func TestAnyEvents(t *testing.T) {
	d := die(3)
	for range 30000 {
		var l []api.Event
		for range d.below(7) {
			x := api.Event{Kind: d.below(8) - 1}
			if d.below(2) == 0 {
				x.Name = d.one("a", "b", "1", strings.Repeat("a", api.MaxName+1))
			}
			if d.below(2) == 0 {
				x.Value = d.one("x", "-", "\xff", "<")
			}
			l = append(l, x)
		}
		e := xml.Check(l)
		s, f := xml.Show(l)
		if e != f || (e == api.OK) != (s != "") {
			t.Fatalf("%v: Check tells %d, Show %q and %d", l, e, s, f)
		}
	}
}

// Answers share no memory with one another: one that is written over leaves the next one as it should be.
func TestAnswersAreNew(t *testing.T) {
	const s = `<r k="1">x</r>`
	first, _ := xml.Parse(s)
	room := first[:cap(first)]
	for i := range room {
		room[i] = text("gone")
	}
	want := within(attr("k", "1"), text("x"))
	if second, e := xml.Parse(s); !slices.Equal(second, want) || e != api.OK {
		t.Errorf("%v %d", second, e)
	}
}
