package xml_test

import (
	"slices"
	"strings"
	"testing"

	"pleacher/api"
	"pleacher/xml"
)

// P1.4
func TestParse(t *testing.T) {
	for _, c := range []struct {
		s    string
		want []api.Event
	}{
		{"<r/>", within()},
		{"<r></r>", within()},
		{`<a-1._Z k="1"/>`, events(start("a-1._Z"), attr("k", "1"), end())},
		{"<r \t\n/>", within()},
		{"<r \t\n></r \t\n>", within()},
		{"<r \n\tk=\"1\"\t l=\"2\" ></r>", within(attr("k", "1"), attr("l", "2"))},
		{`<r k="1"/>`, within(attr("k", "1"))},
		{`<r k="&amp;&lt;&gt;&quot;"/>`, within(attr("k", `&<>"`))},
		{`<r k=""/>`, within(attr("k", ""))},
		{"<r k=\">/> '\n\"/>", within(attr("k", ">/> '\n"))},
		{`<r k="&amp;lt;"/>`, within(attr("k", "&lt;"))},
		{"<r>&amp;&lt;&gt;&quot;</r>", within(text(`&<>"`))},
		{`<r>>"'=/!--></r>`, within(text(`>"'=/!-->`))},
		{"<r>&amp;quot;</r>", within(text("&quot;"))},
		{"<r> \n</r>", within(text(" \n"))},
		{"<r>é\u20ac</r>", within(text("é\u20ac"))},
		{"<r><!--c--></r>", within(comment("c"))},
		{"<r><!----></r>", within(comment(""))},
		{"<r><!-->--></r>", within(comment(">"))},
		{"<r><!--->--></r>", within(comment("->"))},
		{`<r><!--<a>&amp;&"</r>--></r>`, within(comment(`<a>&amp;&"</r>`))},
		{"<r>x<!--c-->y<a/>z</r>", within(text("x"), comment("c"), text("y"), start("a"), end(), text("z"))},
		{"<r><a><b/></a><a/></r>", within(start("a"), start("b"), end(), end(), start("a"), end())},
		{"<r><r></r></r>", within(start("r"), end())},
	} {
		got, e := xml.Parse(c.s)
		if !slices.Equal(got, c.want) || e != api.OK {
			t.Errorf("Parse(%q): %v %d, want %v", c.s, got, e, c.want)
		}
	}
}

func refuse(t *testing.T, want api.Errno, l ...string) {
	t.Helper()
	for _, s := range l {
		if got, e := xml.Parse(s); len(got) > 0 || e != want {
			t.Errorf("Parse(%.60q): %v %d, want %d", s, got, e, want)
		}
	}
}

// P1.4: the text ends, and might go on.
func TestParseShort(t *testing.T) {
	refuse(t, api.ErrShort,
		"", "<", "<r", "<r ", "<r/", "<r k", "<r k=", `<r k="`, `<r k="1`, `<r k="1"`, `<r k="1" `, `<r k="1"/`,
		"<r>", "<r>x", "<r><", "<r></", "<r></r", "<r></r ", "<r><a/>", "<r><a></a>",
		"<r>&", "<r>&a", "<r>&am", "<r>&amp", "<r>&l", "<r>&lt", "<r>&g", "<r>&gt", "<r>&q", "<r>&quot", "<r>&amp;",
		`<r k="&`, `<r k="&quo`,
		"<r><!", "<r><!-", "<r><!--", "<r><!--c", "<r><!--c-", "<r><!--c--", "<r><!--c</r>",
		"<r></x", "<r></x ", "<r></rr",
		"<r><!--a--b", "<r><!--a---",
		`<r k="" k="">`, "<r>\x01", "<"+strings.Repeat("a", api.MaxName+1), strings.Repeat("<a>", api.MaxDepth+1),
	)
}

// P1.4: something stands where nothing such may stand.
func TestParseForm(t *testing.T) {
	refuse(t, api.ErrForm,
		"x", " ", " <r/>", "\n", "x<r/>", "&", "</r>", "</", "<!--c--><r/>", "<!", "<?xml?><r/>", "<>", "< r/>", "< ",
		"<1/>", "<1", "<-", "<.r/>", "<é/>", "<r:a/>", "<r!", "<r\r/>", "<r&", "<r<", `<r"`, "<r=",
		"<r/ >", "<r/x", "<r//>", "<r / >",
		"<r k>", "<r k/>", `<r k ="1"/>`, `<r k= "1"/>`, "<r k=1/>", "<r k='1'/>", "<r k ", `<r 1="1"/>`, `<r ="1"/>`, `<r "1"/>`,
		`<r k="1"l="2"/>`, `<r k="1"l`, `<r k="1""/>`, `<rk="1"/>`,
		`<r k="<`, `<r k="<"/>`, `<r k="&"`, `<r k="&x`, `<r k="& "/>`,
		"<r>&x", "<r>&;", "<r>& </r>", "<r>&amp</r>", "<r>&amx", "<r>&apos;</r>", "<r>&#38;</r>", "<r>&AMP;</r>", "<r>&<", "<r>&&",
		"<r><>", "<r>< a/></r>", "<r></>", "<r></ r>", "<r></r x>", "<r></r/>", "<r></1", "<r><1", "<r><&", "<r><<",
		"<r><!x", "<r><!-x", "<r><!- -", "<r><!>", "<r><?a?></r>", "<r><![CDATA[x]]></r>",
		"<r></x>", "<r></x >", "<r></R>", "<r></rr>", "<rr></r>", "<r><a></r></a>", "<r><a></r>", "<r><a/></a>",
		"<r/>x", "<r/> ", "<r/>\n", "<r></r>\x00", "<r/><r/>", "<r/><", "<r/></r>", "<r/><!--c-->", "<r/>&",
		// what Check refuses so
		"<r>\x01</r>", "<r>\xff</r>", "<r>\r</r>", "<r k=\"\x00\"/>", "<r><!--\xc3--></r>",
		"<r><!--a--b--></r>", "<r><!--a---></r>", "<r><!-----></r>",
	)
}

// P1.4: what Check refuses comes behind all that stands wrong in the text.
func TestParseChecks(t *testing.T) {
	long := strings.Repeat("a", api.MaxName+1)
	deep := strings.Repeat("<a>", api.MaxDepth+1) + strings.Repeat("</a>", api.MaxDepth+1)
	many := "<r>" + strings.Repeat("<a/>", api.MaxEvents/2) + "</r>"
	refuse(t, api.ErrSize, "<"+long+"/>", "<r "+long+`="1"/>`, many)
	refuse(t, api.ErrDeep, deep)
	refuse(t, api.ErrTwice, `<r k="1" k="2"/>`, `<r><a k="1" l="" k="1"/></r>`)
	refuse(t, api.ErrForm, "<"+long+"/>x", deep+" ", many+"x", `<r k="1" k="2"></x>`)

	fits := "<r>" + strings.Repeat("<a/>", api.MaxEvents/2-1) + "</r>"
	if l, e := xml.Parse(fits); len(l) != api.MaxEvents || e != api.OK {
		t.Errorf("as many events as may be: %d, %d", len(l), e)
	}
}

// P1.4: the size is asked ahead of all else.
func TestParseSize(t *testing.T) {
	s := "<r>" + strings.Repeat("x", api.MaxXml-len("<r></r>")) + "</r>"
	if l, e := xml.Parse(s); len(l) != 3 || e != api.OK {
		t.Errorf("as many bytes as may be: %d events, %d", len(l), e)
	}
	refuse(t, api.ErrSize, s+" ", strings.Repeat("x", api.MaxXml+1), "<r>"+s+"</r>")
	refuse(t, api.ErrForm, strings.Repeat("x", api.MaxXml))
	refuse(t, api.ErrShort, strings.Repeat("<a>", api.MaxXml/3))
}
