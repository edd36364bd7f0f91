package axes

import (
	"slices"

	"pleacher/api"
)

// meeting: those of the nodes that were seen which meet the test. A map tells them in any order.
func (w walk) meeting(axis int, t api.Test) []int {
	var met []int
	for n := range w.seen {
		if meets(w.l[n], axis, t) {
			met = append(met, n)
		}
	}
	slices.Sort(met)
	return met
}

func meets(x api.Node, axis int, t api.Test) bool {
	switch t.Kind {
	case api.TextTest:
		return x.Kind == api.Text
	case api.CommTest:
		return x.Kind == api.Comment
	case api.NameTest:
		return isNamed(x, axis) && x.Name == t.Name
	case api.AnyNamed:
		return isNamed(x, axis)
	}
	return true
}

// isNamed: what has a name is an attribute on the axis of attributes alone; an attribute that stands on another axis, as
// itself, is none.
func isNamed(x api.Node, axis int) bool {
	if axis == api.Attribute {
		return x.Kind == api.Attr
	}
	return x.Kind == api.Elem
}
