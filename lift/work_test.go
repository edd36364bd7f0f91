package lift_test

import (
	"slices"
	"testing"

	"pleacher/api"
)

// wide: an element with many texts, each with the same value.
func wide(many int) []api.Node {
	l := []api.Node{{Kind: api.Doc, Size: many + 1, Parent: -1}, {Kind: api.Elem, Name: "r", Size: many, Level: 1}}
	for range many {
		l = append(l, api.Node{Kind: api.Text, Value: "1", Level: 2, Parent: 1})
	}
	return l
}

// P8.1: nothing is refused with ErrSize as long as the work is at most MaxWork, however many rows come of it on the way.
func TestWork(t *testing.T) {
	all, no := step(api.Descendant, api.TextTest, "", root()), lit(truth(false))
	never := cond(no, v("x"), seq())
	for _, c := range []struct {
		name string
		x    api.Expr
		many int // so many nodes
		work int
		want string
	}{
		{"all pairs of two sequences", call("<", all, all), 940, 1888, "false"},
		{"a variable that might be used in all iterations", let("x", all, loop("y", "", all, never)), 310, 0, ""},
		{"a variable that might be used often", let("x", all, loop("y", "", all, cond(no, seq(slices.Repeat([]api.Expr{v("x")}, 650)...), seq()))), 310, 1868, ""},
		{"a variable that is used in one iteration", let("x", all, loop("y", "z", all, cond(call("=", v("z"), n(1)), call("count", v("x")), seq()))), 140, 0, "140"},
		{"keys", call("count", sorted("y", "", 1, all, v("y"), v("y"))), 230, 0, "230"},
		{"numbers", call("count", loop("y", "", call("to", n(1), n(20)), call("to", n(1), n(20)))), 1, 0, "400"},
		{"a node that is copied", call("count", step(api.Child, api.AnyNode, "", made(api.Elem, "e", step(api.Child, api.AnyNamed, "", root())))), 1800, 0, "1"},
	} {
		l := wide(c.many)
		work := c.work
		if work == 0 { // it is told where the model would be slow
			_, _, work, _ = meant(c.x, l)
		}
		if work > api.MaxWork {
			t.Errorf("%s: the work is %d", c.name, work)
		}
		items, _, e := told(t, c.x, l)
		if got := shown(items, e); got != c.want {
			t.Errorf("%s: %s, want %s", c.name, got, c.want)
		}
	}
}

// P8.1: beyond that it may be refused with ErrSize, and is not told otherwise than it is.
func TestBeyondWork(t *testing.T) {
	all := step(api.Descendant, api.TextTest, "", root())
	for _, x := range []api.Expr{call("=", all, all), call("count", loop("x", "", all, loop("y", "", all, n(1)))), let("x", all, call("count", loop("y", "", all, v("x"))))} {
		items, after, e := told(t, x, wide(3000))
		if got := shown(items, e); got != "!1" && got != "true" && got != "9000000" || e == api.ErrSize && len(after) > 0 {
			t.Errorf("%v: %s", x, got)
		}
	}
}
