package run

import "pleacher/api"

// drawing of an element, item by item.
type drawing struct {
	forest *forest
	parts  []part
	size   int            // of what is within it
	names  map[string]int // of its attributes
	text   lengthy        // all text behind the last part
	begun  bool           // did something else than an attribute come?
	plain  bool           // was the last item no node?
}

func (f *forest) sketchElem(name string, items ...api.Item) (sketch, api.Errno) {
	d := drawing{forest: f, names: map[string]int{}}
	for _, x := range items {
		if !d.take(x) {
			return sketch{}, api.ErrValue
		}
	}
	d.endText()
	top := api.Node{Kind: api.Elem, Name: name, Parent: -1}
	return sketch{top: top, parts: d.parts, size: 1 + d.size}, api.OK
}

// take an item; false: it may not be there.
func (d *drawing) take(x api.Item) bool {
	if x.Kind != api.IsNode {
		return d.takePlain(x)
	}
	d.plain = false
	if !d.forest.has(x) {
		return false
	}
	node := d.forest.nodes[x.N]
	switch node.Kind {
	case api.Doc:
		return false
	case api.Attr:
		return d.takeAttr(x.N)
	case api.Text:
		d.begun = true
		return d.text.add(node.Value)
	}
	d.begun = true
	d.endText()
	d.copyOf(x.N)
	return true
}

// takePlain: an item that is no node.
func (d *drawing) takePlain(x api.Item) bool {
	if d.plain && !d.text.add(" ") {
		return false
	}
	d.plain, d.begun = true, true
	s, ok := d.forest.written(x)
	return ok && d.text.add(s)
}

func (d *drawing) takeAttr(n int) bool {
	name := d.forest.nodes[n].Name
	if _, there := d.names[name]; there || d.begun {
		return false
	}
	d.names[name] = n
	d.copyOf(n)
	return true
}

func (d *drawing) copyOf(n int) {
	d.parts = append(d.parts, part{node: n})
	d.size += 1 + d.forest.nodes[n].Size
}

// endText: what text there is becomes one Text, if it is not empty.
func (d *drawing) endText() {
	if d.text.bytes > 0 {
		d.parts = append(d.parts, part{node: -1, text: d.text.whole()})
		d.size++
	}
	d.text = lengthy{}
}
