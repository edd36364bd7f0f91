package query

import (
	"strconv"
	"strings"

	"pleacher/api"
	"pleacher/xml"
)

// writing: a text that grows, item by item, over nodes that may be. It is written as xml's Show writes a document, but that
// may refuse what comes of a query: an empty text, two side by side, an element too deep.
type writing struct {
	nodes []api.Node
	text  strings.Builder
}

func (w *writing) add(pieces ...string) {
	for _, s := range pieces {
		w.text.WriteString(s)
	}
}

func (w *writing) item(x api.Item) {
	switch x.Kind {
	case api.IsNode:
		w.alone(x.N)
	case api.IsInt:
		w.add(strconv.Itoa(x.N))
	case api.IsText:
		w.add(x.S)
	case api.IsBool:
		w.add(strconv.FormatBool(x.N == 1))
	}
}

// alone: a node that is not within one that is written: an attribute has nothing from which a blank would part it.
func (w *writing) alone(n int) {
	if w.nodes[n].Kind == api.Attr {
		w.attr(n)
		return
	}
	w.node(n)
}

func (w *writing) node(n int) {
	x := &w.nodes[n]
	switch x.Kind {
	case api.Doc:
		w.trees(n+1, n+1+x.Size)
	case api.Elem:
		w.elem(n)
	case api.Attr:
		w.add(" ")
		w.attr(n)
	case api.Text:
		w.add(xml.Escape(x.Value))
	case api.Comment:
		w.add("<!--", x.Value, "-->")
	}
}

func (w *writing) attr(n int) {
	x := &w.nodes[n]
	w.add(x.Name, `="`, xml.Escape(x.Value), `"`)
}

func (w *writing) elem(n int) {
	name, end := w.nodes[n].Name, n+1+w.nodes[n].Size
	inner := n + 1 // the first place behind its attributes
	for inner < end && w.nodes[inner].Kind == api.Attr {
		inner++
	}
	w.add("<", name)
	w.trees(n+1, inner)
	if inner == end {
		w.add("/>")
		return
	}
	w.add(">")
	w.trees(inner, end)
	w.add("</", name, ">")
}

// trees that stand one behind the other, from one place to ahead of another.
func (w *writing) trees(from, to int) {
	for n := from; n < to; n += 1 + w.nodes[n].Size {
		w.node(n)
	}
}
