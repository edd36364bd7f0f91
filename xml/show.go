package xml

import (
	"strings"

	"pleacher/api"
)

// escape: a byte that does not stand as it is, and what stands for it.
type escape struct {
	plain   byte
	escaped string
}

// One table for both ways: what Escape writes is what Parse takes back.
var escapes = [4]escape{
	{'&', "&amp;"},
	{'<', "&lt;"},
	{'>', "&gt;"},
	{'"', "&quot;"},
}

// Escape a text.
func Escape(s string) string {
	var b strings.Builder
	for i := range len(s) {
		writeEscaped(&b, s[i])
	}
	return b.String()
}

func writeEscaped(b *strings.Builder, c byte) {
	for _, x := range escapes {
		if x.plain == c {
			b.WriteString(x.escaped)
			return
		}
	}
	b.WriteByte(c)
}

// Show events of a document as text.
func Show(l []api.Event) (string, api.Errno) {
	if e := Check(l); e != api.OK {
		return "", e
	}
	var b strings.Builder
	var open []string
	for i, x := range l {
		switch x.Kind {
		case api.Start:
			open = append(open, x.Name)
			b.WriteString("<" + x.Name)
		case api.Attr:
			b.WriteString(" " + x.Name + `="` + Escape(x.Value) + `"`)
		case api.Text:
			b.WriteString(Escape(x.Value))
		case api.Comment:
			b.WriteString("<!--" + x.Value + "-->")
		case api.End:
			last := len(open) - 1
			b.WriteString(endOf(l[i-1], open[last]))
			open = open[:last]
		}
		// A document has an event behind each of these: the element's End at least.
		if inTag(x) && l[i+1].Kind != api.Attr && l[i+1].Kind != api.End {
			b.WriteString(">")
		}
	}
	return b.String(), api.OK
}

// endOf: an End whose tag has not been closed yet closes it.
func endOf(ahead api.Event, name string) string {
	if inTag(ahead) {
		return "/>"
	}
	return "</" + name + ">"
}
