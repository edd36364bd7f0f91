package lift_test

import (
	"slices"
	"testing"

	"pleacher/api"
	"pleacher/core"
	"pleacher/lift"
	"pleacher/store"
)

// die: numbers that look drawn, the same in each run.
type die uint64

func (d *die) below(n int) int {
	*d = *d*6364136223846793005 + 1442695040888963407
	return int(uint64(*d>>33) % uint64(n))
}

func (d *die) one(l ...string) string { return l[d.below(len(l))] }

// What an expression is drawn for: items of any kind, nodes; or one item at most: a number, a text, a truth, a node.
const (
	wantAny = iota
	wantNodes
	wantNumber
	wantText
	wantTruth
	wantNode
	wants
)

// drawing of an expression: how many loops and constructors it may still have, and the variables in scope, by what they are
// drawn for.
type drawing struct {
	*die
	loops, makes int
	vars         [wants][]string
}

func (d *drawing) expr(deep, want int) api.Expr {
	if d.below(60) == 0 { // something else than is wanted
		want = d.below(wants)
	}
	if deep <= 0 {
		return d.leaf(want)
	}
	switch d.below(9) {
	case 0:
		return d.let(deep, want)
	case 1:
		return cond(d.expr(deep-1, d.condition()), d.expr(deep-1, want), d.expr(deep-1, want))
	case 2:
		return d.leaf(want)
	}
	switch want {
	case wantNumber:
		return d.number(deep)
	case wantText:
		return d.text(deep)
	case wantTruth:
		return d.truth(deep)
	case wantNode:
		return d.node(deep)
	}
	return d.many(deep, want)
}

// condition: what is asked whether it is true.
func (d *drawing) condition() int {
	return []int{wantTruth, wantTruth, wantNodes, wantNumber, wantText}[d.below(5)]
}

// variable: one that was drawn for what is wanted, if there is some.
func (d *drawing) variable(want int) (api.Expr, bool) {
	if len(d.vars[want]) == 0 {
		return api.Expr{}, false
	}
	return v(d.one(d.vars[want]...)), true
}

func (d *drawing) leaf(want int) api.Expr {
	if x, ok := d.variable(want); ok && d.below(4) > 0 {
		return x
	}
	if d.below(12) == 0 {
		return seq()
	}
	switch want {
	case wantNumber:
		return n([]int{0, 1, 1, 2, 3, -1, api.MaxInt}[d.below(7)])
	case wantText:
		return s(d.one("", "a", "1", "2", "é", "ab"))
	case wantTruth:
		return lit(truth(d.below(2) == 0))
	case wantNode:
		return root()
	case wantNodes:
		return d.step(root())
	}
	return d.leaf(1 + d.below(wants-1))
}

func (d *drawing) step(from api.Expr) api.Expr {
	axis := []int{api.Child, api.Descendant, api.Descendant, api.DescendantOrSelf, 1 + d.below(12)}[d.below(5)]
	return step(axis, []int{api.AnyNode, api.AnyNode, 1 + d.below(5)}[d.below(3)], d.one("a", "b", "k"), from)
}

// within: an expression with a variable more in scope.
func (d *drawing) within(deep, want int, names map[string]int) api.Expr {
	was := d.vars
	for k := range d.vars {
		d.vars[k] = slices.DeleteFunc(slices.Clone(d.vars[k]), func(s string) bool {
			_, hidden := names[s]
			return hidden
		})
	}
	for _, name := range []string{"x", "y", "z", "w"} {
		if kind, there := names[name]; there {
			d.vars[kind] = append(d.vars[kind], name)
		}
	}
	x := d.expr(deep, want)
	d.vars = was
	return x
}

func (d *drawing) let(deep, want int) api.Expr {
	name, kind := d.one("x", "y", "z", "w"), d.below(wants)
	return let(name, d.expr(deep-1, kind), d.within(deep-1, want, map[string]int{name: kind}))
}

// loop: a For or a Sorted.
func (d *drawing) loop(deep, want int) api.Expr {
	d.loops--
	kind, item := wantAny, wantAny
	if d.below(2) == 0 {
		kind, item = wantNodes, wantNode
	}
	name, at := d.one("x", "y"), ""
	names := map[string]int{name: item}
	if d.below(2) == 0 {
		at = d.one("z", "w")
		names[at] = wantNumber
	}
	over := d.expr(deep-1, kind)
	if d.below(3) > 0 {
		return loop(name, at, over, d.within(deep-1, want, names))
	}
	key := d.within(min(deep-1, 2), wantNumber+d.below(4), names)
	return sorted(name, at, d.below(3), over, key, d.within(deep-1, want, names))
}

// many: items of any kind, or nodes.
func (d *drawing) many(deep, want int) api.Expr {
	if d.loops > 0 && d.below(3) == 0 {
		return d.loop(deep, want)
	}
	switch d.below(4) {
	case 0:
		x := seq()
		for range 1 + d.below(3) {
			x.Args = append(x.Args, d.expr(deep-1, want))
		}
		return x
	case 1:
		if want == wantNodes {
			return call("reverse", d.expr(deep-1, wantNodes))
		}
		return call(d.one("reverse", "data", "distinct"), d.expr(deep-1, wantAny))
	case 2:
		if want == wantAny {
			return call("to", d.expr(deep-1, wantNumber), d.expr(deep-1, wantNumber))
		}
		return d.step(d.expr(deep-1, wantNodes))
	}
	if d.below(3) == 0 {
		return call("ddo", d.expr(deep-1, wantNodes))
	}
	return call(d.one("union", "intersect", "except"), d.expr(deep-1, wantNodes), d.expr(deep-1, wantNodes))
}

func (d *drawing) number(deep int) api.Expr {
	switch d.below(5) {
	case 0:
		return call("count", d.expr(deep-1, wantAny))
	case 1:
		return call(d.one("sum", "min", "max"), d.numbers(deep-1))
	case 2:
		return call(d.one("integer", "neg"), d.expr(deep-1, wantNumber))
	case 3:
		return call("length", d.expr(deep-1, wantText))
	}
	return call(d.one("+", "-", "*", "div", "mod"), d.expr(deep-1, wantNumber), d.expr(deep-1, wantNumber))
}

func (d *drawing) numbers(deep int) api.Expr {
	if d.loops > 0 && d.below(2) == 0 {
		return d.loop(deep, wantNumber)
	}
	return seq(d.expr(deep, wantNumber), d.expr(deep, wantNumber))
}

func (d *drawing) text(deep int) api.Expr {
	switch d.below(4) {
	case 0:
		return call("concat", d.expr(deep-1, wantText), d.expr(deep-1, wantText))
	case 1:
		return call("substring", d.expr(deep-1, wantText), d.expr(deep-1, wantNumber), d.expr(deep-1, wantNumber))
	case 2:
		return call("name", d.expr(deep-1, wantNode))
	}
	return call("string", d.expr(deep-1, wantNumber+d.below(4)))
}

func (d *drawing) truth(deep int) api.Expr {
	switch d.below(7) {
	case 0:
		return call(d.one("empty", "exists"), d.expr(deep-1, wantAny))
	case 1:
		return call(d.one("not", "boolean"), d.expr(deep-1, d.condition()))
	case 2:
		return call(d.one("and", "or"), d.expr(deep-1, d.condition()), d.expr(deep-1, d.condition()))
	case 3:
		return call(d.one("contains", "starts"), d.expr(deep-1, wantText), d.expr(deep-1, wantText))
	case 4:
		return call(d.one("is", "<<", ">>"), d.expr(deep-1, wantNode), d.expr(deep-1, wantNode))
	case 5:
		return call("holds", d.expr(deep-1, d.condition()), d.expr(deep-1, wantNumber))
	}
	return call(d.one("=", "!=", "<", "<=", ">", ">="), d.expr(deep-1, wantAny), d.expr(deep-1, wantAny))
}

func (d *drawing) node(deep int) api.Expr {
	if d.makes > 0 && d.below(2) == 0 {
		d.makes--
		kind := []int{api.Elem, api.Elem, api.Attr, api.Text}[d.below(4)]
		return made(kind, d.one("a", "b", "k"), d.expr(deep-1, []int{wantAny, wantNodes, wantText}[d.below(3)]))
	}
	return step(api.Parent, api.AnyNode, "", d.expr(deep-1, wantNode))
}

// drawnOver: documents, some of them with other nodes behind.
func drawnOver(t *testing.T) [][]api.Node {
	var all [][]api.Node
	for _, s := range []string{"<r/>", `<r k="1">2<a/><b k="x">é<a>1</a></b><!--c--></r>`, `<a><a k="2" b=""><b/>3</a>1<a/></a>`} {
		all = append(all, shred(t, s))
	}
	more := append(slices.Clone(all[1]), api.Node{Kind: api.Attr, Name: "k", Value: "3", Parent: -1}, api.Node{Kind: api.Elem, Name: "a", Parent: -1})
	return append(all, more, []api.Node{{Kind: api.Text, Value: "7", Parent: -1}})
}

// tally of expressions, by their kinds and functions.
func tally(x api.Expr, kinds map[int]int, functions map[string]int) {
	kinds[x.Kind]++
	if x.Kind == api.Call {
		functions[x.Name]++
	}
	for _, y := range x.Args {
		tally(y, kinds, functions)
	}
}

// All promises at once: the plan of a drawn expression tells what it means.
func TestDrawn(t *testing.T) {
	seed := die(8)
	over := drawnOver(t)
	kinds, functions, outcomes, built, great := map[int]int{}, map[string]int{}, map[api.Errno]int{}, 0, 0
	for range 12000 {
		d := drawing{die: &seed, loops: 5, makes: 5}
		x := d.expr(1+d.below(6), d.below(wants))
		l := over[d.below(len(over))]
		if core.Check(x) != api.OK {
			if p, e := lift.Lift(x); e != core.Check(x) || len(p) > 0 {
				t.Fatalf("%v is refused with %d, want %d", x, e, core.Check(x))
			}
			continue
		}
		items, nodes, work, want := meant(x, l)
		if want == api.ErrSize {
			continue
		}
		got, after, e := told(t, x, l)
		if e == api.ErrSize && work > api.MaxWork {
			great++
			continue
		}
		if e != want || !slices.Equal(got, items) || !slices.Equal(after, nodes) {
			t.Fatalf("%v over %v:\n%s %v,\nwant %s %v", x, l, shown(got, e), after, shown(items, want), nodes)
		}
		outcomes[e]++
		if e != api.OK {
			continue
		}
		if store.Check(after) != api.OK {
			t.Fatalf("%v leaves %v", x, after)
		}
		built += len(after) - len(l)
		tally(x, kinds, functions)
	}
	for kind := api.Lit; kind <= api.Root; kind++ {
		if kinds[kind] < 300 {
			t.Errorf("Kind %d: %d", kind, kinds[kind])
		}
	}
	if len(functions) != 42 || outcomes[api.OK] < 5000 || outcomes[api.ErrValue] < 500 || built < 2000 || great > 100 {
		t.Errorf("functions %v, outcomes %v, %d nodes, %d with too much work", functions, outcomes, built, great)
	}
	for name, n := range functions {
		if n < 30 {
			t.Errorf("%s: %d", name, n)
		}
	}
}
