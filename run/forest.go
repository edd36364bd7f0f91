package run

import (
	"strings"

	"pleacher/api"
)

// forest: the nodes that there are, and the Values of those that are Texts, one behind the other: what is within a node is
// a piece of that, and is not put together again for each row.
type forest struct {
	nodes []api.Node
	texts strings.Builder // as far as some node's text was asked for
	ends  []int           // of the nodes of which texts has the Values: how long it is behind each
}

func (f *forest) add(l ...api.Node) { f.nodes = append(f.nodes, l...) }

// has: is it a node that is there?
func (f *forest) has(x api.Item) bool {
	return x.Kind == api.IsNode && 0 <= x.N && x.N < len(f.nodes)
}

// text of a node that is there, as store's Text tells it.
func (f *forest) text(n int) string {
	x := f.nodes[n]
	if x.Kind != api.Elem && x.Kind != api.Doc {
		return x.Value
	}
	last := n + x.Size
	f.gather(last)
	return f.texts.String()[f.ends[n]:f.ends[last]]
}

// gather the Values of all Texts up to a node.
func (f *forest) gather(last int) {
	for i := len(f.ends); i <= last; i++ {
		if f.nodes[i].Kind == api.Text {
			f.texts.WriteString(f.nodes[i].Value)
		}
		f.ends = append(f.ends, f.texts.Len())
	}
}

// source: one row, with the first node.
func (f *forest) source() (api.Rel, api.Errno) {
	if len(f.nodes) == 0 {
		return api.Rel{}, api.ErrNone
	}
	return api.Rel{Cols: []string{itemCol}, Rows: [][]api.Item{{nodeItem(0)}}}, api.OK
}

func nodeItem(n int) api.Item { return api.Item{Kind: api.IsNode, N: n} }
