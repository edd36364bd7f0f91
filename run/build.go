package run

import (
	"strings"

	"pleacher/api"
	"pleacher/rel"
)

// sketch of a node that is to be made. All are sketched ahead of making the first one: what may not be is told ahead of
// there being too many.
type sketch struct {
	top   api.Node
	parts []part
	size  int // how many nodes it comes to; 0: none is made
}

// part of an element: a node that is copied, or a text.
type part struct {
	node int // -1: a text
	text string
}

// build a node for each row of a loop, from the content that has its iter.
func (f *forest) build(loop, content api.Rel, kind int, name string) (api.Rel, api.Errno) {
	items, e := contents(content)
	if e != api.OK {
		return api.Rel{}, e
	}
	sketches, e := f.sketches(loop, func(iter api.Item) (sketch, api.Errno) {
		return f.sketch(kind, name, items[iter]...)
	})
	if e != api.OK {
		return api.Rel{}, e
	}
	made := api.Rel{Cols: []string{iterCol, itemCol}}
	e = each(loop, func(_ []api.Item, items ...api.Item) api.Errno {
		iter := items[0]
		if s := sketches[iter]; s.size > 0 {
			made.Rows = append(made.Rows, []api.Item{iter, nodeItem(len(f.nodes))})
			f.grow(s)
		}
		return api.OK
	}, iterCol)
	return made, e
}

// sketches of all nodes of a loop, by iter. Where they come to too many they are drawn still, but not kept.
func (f *forest) sketches(loop api.Rel, draw func(iter api.Item) (sketch, api.Errno)) (map[api.Item]sketch, api.Errno) {
	drawn := map[api.Item]sketch{}
	size := len(f.nodes)
	e := each(loop, func(_ []api.Item, items ...api.Item) api.Errno {
		iter := items[0]
		s, there := drawn[iter]
		if !there {
			var e api.Errno
			if s, e = draw(iter); e != api.OK {
				return e
			}
		}
		size += s.size
		if size > api.MaxNodes {
			s = sketch{size: s.size}
		}
		drawn[iter] = s
		return api.OK
	}, iterCol)
	if e == api.OK && size > api.MaxNodes {
		e = api.ErrSize
	}
	return drawn, e
}

// contents: the items of each iteration, by pos.
func contents(r api.Rel) (map[api.Item][]api.Item, api.Errno) {
	sorted, e := rel.Sort(r, []string{posCol})
	if e != api.OK {
		return nil, e
	}
	all := map[api.Item][]api.Item{}
	e = each(sorted, func(_ []api.Item, items ...api.Item) api.Errno {
		all[items[0]] = append(all[items[0]], items[1])
		return api.OK
	}, iterCol, itemCol)
	return all, e
}

func (f *forest) sketch(kind int, name string, items ...api.Item) (sketch, api.Errno) {
	if kind == api.Elem {
		return f.sketchElem(name, items...)
	}
	if kind == api.Text {
		if len(items) == 0 {
			return sketch{}, api.OK
		}
		name = "" // a Text has none, whatever the op has
	}
	s, ok := f.joined(items...)
	if !ok {
		return sketch{}, api.ErrValue
	}
	return sketch{top: api.Node{Kind: kind, Name: name, Value: s, Parent: -1}, size: 1}, api.OK
}

// joined: the strings of items, with blanks between; false: it may not be a value. As all of them may be, it is too long.
func (f *forest) joined(items ...api.Item) (string, bool) {
	var t lengthy
	for i, x := range items {
		s, ok := f.written(x)
		if !ok || i > 0 && !t.add(" ") || !t.add(s) {
			return "", false
		}
	}
	return t.whole(), true
}

// lengthy: a text that is put together of pieces, as long as it may be.
type lengthy struct {
	pieces []string
	bytes  int
}

// add a piece; false: there would be too much.
func (t *lengthy) add(s string) bool {
	if t.bytes+len(s) > api.MaxText {
		return false
	}
	t.pieces = append(t.pieces, s)
	t.bytes += len(s)
	return true
}

func (t *lengthy) whole() string { return strings.Join(t.pieces, "") }

// grow a node, behind all.
func (f *forest) grow(s sketch) {
	at := len(f.nodes)
	s.top.Size = s.size - 1
	f.add(s.top)
	for _, p := range s.parts {
		if p.node < 0 {
			f.add(api.Node{Kind: api.Text, Value: p.text, Level: 1, Parent: at})
		} else {
			f.addCopy(p.node, at)
		}
	}
}

// addCopy of a node, with all within it, as store's Copy tells it, under a node that has no parent.
func (f *forest) addCopy(n, parent int) {
	top := f.nodes[n]
	at := len(f.nodes)
	for _, x := range f.nodes[n : n+1+top.Size] {
		x.Parent += at - n
		x.Level += 1 - top.Level
		f.add(x)
	}
	f.nodes[at].Parent = parent
}
