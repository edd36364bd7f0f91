package store

import (
	"pleacher/api"
	"pleacher/xml"
)

// Check nodes: are they trees, one behind the other, attributes ahead of all else in their element?
func Check(l []api.Node) api.Errno {
	if len(l) > api.MaxNodes {
		return api.ErrSize
	}
	for i, x := range l {
		if !fitsKind(x) || !fitsPlace(l, i) {
			return api.ErrForm
		}
	}
	return api.OK
}

// checkAt: what all calls but Check refuse.
func checkAt(l []api.Node, n int) api.Errno {
	if e := Check(l); e != api.OK {
		return e
	}
	if n < 0 || n >= len(l) {
		return api.ErrNone
	}
	return api.OK
}

// holds: is it of a kind that may have others within?
func holds(x api.Node) bool { return x.Kind == api.Elem || x.Kind == api.Doc }

// fitsKind: has it the name, the value and the size that its kind may have?
func fitsKind(x api.Node) bool {
	switch x.Kind {
	case api.Doc:
		return x.Name == "" && x.Value == ""
	case api.Elem:
		return isName(x.Name) && x.Value == ""
	case api.Attr:
		return isName(x.Name) && isLeaf(x)
	case api.Text, api.Comment:
		return x.Name == "" && isLeaf(x)
	}
	return false
}

func isName(s string) bool { return xml.CheckName(s) == api.OK }

func isLeaf(x api.Node) bool { return x.Size == 0 && xml.CheckText(x.Value) == api.OK }

// fitsPlace is asked only if all nodes ahead fit.
func fitsPlace(l []api.Node, i int) bool {
	x := l[i]
	if x.Size < 0 || x.Size > len(l)-1-i {
		return false
	}
	p := around(l, i)
	if x.Parent != p {
		return false
	}
	if p < 0 {
		return x.Level == 0
	}
	if x.Level != l[p].Level+1 || i+x.Size > p+l[p].Size {
		return false
	}
	switch x.Kind {
	case api.Doc:
		return false
	case api.Attr:
		return l[p].Kind == api.Elem && (i-1 == p || l[i-1].Kind == api.Attr)
	}
	return true
}

// around: the place of the nearest node within whose size another one is, or -1. Whatever ends ahead of it is passed by
// its parent, as all that is within a node ends with it at the latest.
func around(l []api.Node, i int) int {
	p := i - 1
	for p >= 0 && p+l[p].Size < i {
		p = l[p].Parent
	}
	return p
}
