package query_test

import (
	"slices"
	"testing"

	"pleacher/api"
	"pleacher/read"
	"pleacher/rel"
	"pleacher/stair"
)

// What a query means, phrase by phrase and iteration by iteration: without the core, and without plans. It knows no
// constructors, as the order in which these make nodes is that of the core.

// list: a sequence of items.
type list = []api.Item

// names in scope, and what they are: variables with their $, and "." with its place and how many there are.
type names map[string]list

func (in names) with(name string, l list) names {
	other := names{name: l}
	for k, v := range in {
		if k != name {
			other[k] = v
		}
	}
	return other
}

// noValue is told by a panic out of the midst of the model.
type noValue struct{}

func valued(holds bool) {
	if !holds {
		panic(noValue{})
	}
}

// meaning of phrases, over nodes.
type meaning struct{ l []api.Node }

// meant by a query that is not refused: its items, or ErrValue.
func meant(t *testing.T, q string, l []api.Node) (items list, e api.Errno) {
	t.Helper()
	tokens, _, _ := read.Cut(q)
	phrase, _, f := read.Parse(tokens)
	if f != api.OK {
		t.Fatalf("%s: %d", q, f)
	}
	defer func() {
		switch x := recover(); x.(type) {
		case nil:
		case noValue:
			items, e = nil, api.ErrValue
		default:
			panic(x)
		}
	}()
	m := meaning{l}
	return m.eval(phrase, names{}), api.OK
}

func (m *meaning) eval(p api.Phrase, in names) list {
	switch p.Kind {
	case api.Lit:
		return list{p.Item}
	case api.Var:
		return in["$"+p.Name]
	case api.Dot:
		return in["."]
	case api.Root:
		return list{node(0)}
	case api.Seq:
		var all list
		for _, x := range p.Args {
			all = append(all, m.eval(x, in)...)
		}
		return all
	case api.If:
		if m.isTrue(m.eval(p.Args[0], in)) {
			return m.eval(p.Args[1], in)
		}
		return m.eval(p.Args[2], in)
	case api.Step:
		return m.step(p, in["."])
	case api.Path:
		return m.path(p, in)
	case api.Filter:
		return m.filter(p, in)
	case api.Some, api.Every:
		return m.quantified(p, in)
	case api.Flwor:
		return m.flwor(p, in)
	case api.Minus:
		return m.function("neg", m.eval(p.Args[0], in))
	case api.Binary:
		return m.function(p.Name, m.eval(p.Args[0], in), m.eval(p.Args[1], in))
	}
	return m.call(p, in)
}

func (m *meaning) places(l list) []int {
	var places []int
	for _, x := range l {
		valued(x.Kind == api.IsNode)
		places = append(places, x.N)
	}
	return places
}

// set of nodes, by their places, each once.
func (m *meaning) set(places []int, in func(n int) bool) list {
	var all list
	slices.Sort(places)
	for _, n := range slices.Compact(places) {
		if in(n) {
			all = append(all, node(n))
		}
	}
	return all
}

func (m *meaning) step(p api.Phrase, from list) list {
	found, e := stair.Walk(m.l, m.places(from), p.Axis, p.Test)
	if e != api.OK {
		panic(e)
	}
	return m.set(found, func(int) bool { return true })
}

func (m *meaning) path(p api.Phrase, in names) list {
	left := m.eval(p.Args[0], in)
	if p.Args[1].Kind == api.Step {
		return m.step(p.Args[1], left)
	}
	var all list
	for _, x := range left {
		all = append(all, m.eval(p.Args[1], in.with(".", list{x}))...)
	}
	return m.set(m.places(all), func(int) bool { return true })
}

func (m *meaning) filter(p api.Phrase, in names) list {
	all := m.eval(p.Args[0], in)
	for _, predicate := range p.Args[1:] {
		var kept list
		for i, x := range all {
			held := m.eval(predicate, in.with(".", list{x}).with("position", list{num(i + 1)}).with("last", list{num(len(all))}))
			if len(held) == 1 && held[0].Kind == api.IsInt && held[0].N == i+1 || !(len(held) == 1 && held[0].Kind == api.IsInt) && m.isTrue(held) {
				kept = append(kept, x)
			}
		}
		all = kept
	}
	return all
}

// quantified: all items are looked at, even where one would tell.
func (m *meaning) quantified(p api.Phrase, in names) list {
	are := 0
	all := m.eval(p.Args[0], in)
	for _, x := range all {
		if m.isTrue(m.eval(p.Args[1], in.with("$"+p.Name, list{x}))) {
			are++
		}
	}
	if p.Kind == api.Some {
		return list{truth(are > 0)}
	}
	return list{truth(are == len(all))}
}

// flwor: all ways to bind its variables, put in order, and then those of which Where holds. (There is one ForIn, if there is
// an OrderBy, and so all ways are within one iteration of what is around.)
func (m *meaning) flwor(p api.Phrase, in names) list {
	ways := []names{in}
	keep := func(names) bool { return true }
	for _, c := range p.Clauses {
		switch c.Kind {
		case api.ForIn, api.LetBe:
			ways = m.bound(c, ways)
		case api.Where:
			keep = func(way names) bool { return m.isTrue(m.eval(c.Expr, way)) }
		case api.OrderBy:
			m.order(c, ways)
		}
	}
	var all list
	for _, way := range ways {
		if keep(way) {
			all = append(all, m.eval(p.Args[0], way)...)
		}
	}
	return all
}

func (m *meaning) bound(c api.Clause, ways []names) []names {
	var more []names
	for _, way := range ways {
		value := m.eval(c.Expr, way)
		if c.Kind == api.LetBe {
			more = append(more, way.with("$"+c.Name, value))
			continue
		}
		for i, x := range value {
			one := way.with("$"+c.Name, list{x})
			if c.At != "" {
				one = one.with("$"+c.At, list{num(i + 1)})
			}
			more = append(more, one)
		}
	}
	return more
}

func (m *meaning) order(c api.Clause, ways []names) {
	type keyed struct {
		key list
		way names
	}
	var all []keyed
	for _, way := range ways {
		key := m.eval(c.Expr, way)
		valued(len(key) <= 1)
		all = append(all, keyed{m.data(key), way})
	}
	slices.SortStableFunc(all, func(a, b keyed) int {
		if c.Down {
			a, b = b, a
		}
		return slices.CompareFunc(a.key, b.key, rel.Compare)
	})
	for i := range ways {
		ways[i] = all[i].way
	}
}

func (m *meaning) call(p api.Phrase, in names) list {
	switch p.Name {
	case "true", "false":
		return list{truth(p.Name == "true")}
	case "position", "last":
		return in[p.Name]
	}
	var args []list
	for _, x := range p.Args {
		args = append(args, m.eval(x, in))
	}
	return m.function(p.Name, args...)
}
