package lift_test

import (
	"slices"
	"strings"

	"pleacher/api"
	"pleacher/rel"
	"pleacher/stair"
)

// What P8.1 to P8.8 say, word by word: without plans, and written without a look at the program.

// list: a sequence of items.
type list = []api.Item

// iteration: what the variables are in it.
type iteration map[string]list

// model of an evaluation: the nodes that there are, and the work.
type model struct {
	l    []api.Node
	work int
}

// noValue and tooMuch are told by a panic out of the midst of the model.
type noValue struct{}
type tooMuch struct{}

func valued(holds bool) {
	if !holds {
		panic(noValue{})
	}
}

// meant by an expression over nodes: its items, the nodes that there are then, and the work; or ErrValue; or ErrSize, where
// nothing is promised any more.
func meant(x api.Expr, l []api.Node) (items list, nodes []api.Node, work int, e api.Errno) {
	m := model{l: slices.Clone(l)}
	defer func() {
		switch x := recover(); x.(type) {
		case nil:
		case noValue:
			items, nodes, work, e = nil, nil, m.work, api.ErrValue
		case tooMuch:
			items, nodes, work, e = nil, nil, m.work, api.ErrSize
		default:
			panic(x)
		}
	}()
	return m.eval(x, []iteration{{}})[0], m.l, m.work, api.OK
}

// worked: so much more.
func (m *model) worked(n int) {
	m.work += n
	if m.work > 100000 {
		panic(tooMuch{})
	}
}

// eval in all iterations: P8.2.
func (m *model) eval(x api.Expr, its []iteration) []list {
	told := m.told(x, its)
	for _, l := range told {
		m.worked(1 + len(l))
	}
	return told
}

func (m *model) told(x api.Expr, its []iteration) []list {
	told := make([]list, len(its))
	switch x.Kind {
	case api.Lit:
		for i := range its {
			told[i] = list{x.Item}
		}
	case api.Root:
		for i := range its {
			told[i] = list{node(0)}
		}
	case api.Var:
		for i := range its {
			told[i] = its[i][x.Name]
		}
	case api.Seq:
		for _, y := range x.Args {
			for i, l := range m.eval(y, its) {
				told[i] = slices.Concat(told[i], l)
			}
		}
	case api.Let:
		values := m.eval(x.Args[0], its)
		var within []iteration
		for i := range its {
			within = append(within, its[i].with(x.Name, values[i]))
		}
		return m.eval(x.Args[1], within)
	case api.If:
		return m.conditional(x, its)
	case api.For, api.Sorted:
		return m.loop(x, its)
	case api.Step:
		for i, l := range m.eval(x.Args[0], its) {
			told[i] = m.step(x, l)
		}
	case api.Make:
		for i, l := range m.eval(x.Args[0], its) {
			told[i] = m.make(x, l)
		}
	case api.Call:
		return m.call(x, its)
	}
	return told
}

func (it iteration) with(name string, l list) iteration {
	other := iteration{}
	for k, v := range it {
		other[k] = v
	}
	other[name] = l
	return other
}

// conditional: P8.2.
func (m *model) conditional(x api.Expr, its []iteration) []list {
	var places [2][]int
	var branches [2][]iteration
	for i, l := range m.eval(x.Args[0], its) {
		k := 1
		if m.isTrue(l) {
			k = 0
		}
		places[k] = append(places[k], i)
		branches[k] = append(branches[k], its[i])
	}
	told := make([]list, len(its))
	for k := range 2 {
		for j, l := range m.eval(x.Args[1+k], branches[k]) {
			told[places[k][j]] = l
		}
	}
	return told
}

// loop: P8.3.
func (m *model) loop(x api.Expr, its []iteration) []list {
	var within []iteration
	var around []int
	for i, l := range m.eval(x.Args[0], its) {
		for j, item := range l {
			it := its[i].with(x.Name, list{item})
			if x.At != "" {
				it = it.with(x.At, list{num(j + 1)})
			}
			within = append(within, it)
			around = append(around, i)
		}
	}
	order := make([]int, len(within))
	for k := range order {
		order[k] = k
	}
	if x.Kind == api.Sorted {
		keys := m.eval(x.Args[1], within)
		for k, l := range keys {
			valued(len(l) <= 1)
			for _, item := range l {
				keys[k] = list{m.data(item)}
			}
		}
		slices.SortStableFunc(order, func(a, b int) int {
			c := slices.CompareFunc(keys[a], keys[b], rel.Compare) // none is ahead of all
			if x.N == 1 {
				return -c
			}
			return c
		})
	}
	bodies := m.eval(x.Args[len(x.Args)-1], within)
	told := make([]list, len(its))
	for _, k := range order {
		told[around[k]] = slices.Concat(told[around[k]], bodies[k])
	}
	return told
}

// step: P8.4.
func (m *model) step(x api.Expr, l list) list {
	var told list
	found, e := stair.Walk(m.l, m.places(l), x.Axis, x.Test)
	if e != api.OK {
		panic(e)
	}
	for _, n := range found {
		told = append(told, node(n))
	}
	return told
}

func (m *model) places(l list) []int {
	var places []int
	for _, x := range l {
		valued(x.Kind == api.IsNode)
		places = append(places, x.N)
	}
	return places
}

// isTrue: P8.5.
func (m *model) isTrue(l list) bool {
	return len(l) > 0 && m.ebv(l[0], len(l))
}

// call: P8.5 to P8.8. All arguments are evaluated ahead of it.
func (m *model) call(x api.Expr, its []iteration) []list {
	args := make([][]list, len(its))
	for _, y := range x.Args {
		for i, l := range m.eval(y, its) {
			args[i] = append(args[i], l)
		}
	}
	var told []list
	for i := range its {
		told = append(told, m.function(x.Name, args[i]))
	}
	return told
}

func (m *model) function(name string, args []list) list {
	a := args[0]
	switch name {
	case "count":
		return list{num(len(a))}
	case "empty":
		return list{truth(len(a) == 0)}
	case "exists":
		return list{truth(len(a) > 0)}
	case "boolean":
		return list{truth(m.isTrue(a))}
	case "not":
		return list{truth(!m.isTrue(a))}
	case "and", "or":
		b := m.isTrue(args[1])
		return list{truth(m.isTrue(a) && b || name == "or" && (m.isTrue(a) || b))}
	case "sum", "min", "max":
		return m.aggregate(name, a)
	case "data", "distinct":
		return m.dataOf(name == "distinct", a)
	case "reverse":
		a = slices.Clone(a)
		slices.Reverse(a)
		return a
	case "ddo":
		return m.set(a, func(int) bool { return true })
	case "union", "intersect", "except":
		return m.sets(name, a, args[1])
	case "=", "!=", "<", "<=", ">", ">=":
		return list{truth(m.some(name, a, args[1]))}
	}
	return m.ofOnes(name, args)
}

// aggregate: P8.6.
func (m *model) aggregate(name string, l list) list {
	var numbers []int
	for _, x := range l {
		numbers = append(numbers, m.integer(x))
	}
	switch {
	case name == "sum":
		sum := 0
		for _, n := range numbers {
			sum += n
			valued(bounded(sum))
		}
		return list{num(sum)}
	case len(l) == 0:
		return nil
	case name == "min":
		return list{num(slices.Min(numbers))}
	}
	return list{num(slices.Max(numbers))}
}

func (m *model) dataOf(distinct bool, l list) list {
	var told list
	for _, x := range l {
		if d := m.data(x); !distinct || !slices.Contains(told, d) {
			told = append(told, d)
		}
	}
	return told
}

// set: P8.7.
func (m *model) set(l list, in func(n int) bool) list {
	var told list
	places := m.places(l)
	for n := range m.l {
		if slices.Contains(places, n) && in(n) {
			told = append(told, node(n))
		}
	}
	return told
}

func (m *model) sets(name string, a, b list) list {
	others := m.places(b)
	switch name {
	case "union":
		return m.set(slices.Concat(a, b), func(int) bool { return true })
	case "intersect":
		return m.set(a, func(n int) bool { return slices.Contains(others, n) })
	}
	return m.set(a, func(n int) bool { return !slices.Contains(others, n) })
}

// some pair: P8.8.
func (m *model) some(name string, a, b list) bool {
	is := false
	for _, x := range a {
		for _, y := range b {
			if m.compared(name, m.data(x), m.data(y)) {
				is = true
			}
		}
	}
	return is
}

// ofOnes: P8.8.
func (m *model) ofOnes(name string, args []list) list {
	for i, l := range args {
		valued(len(l) <= 1 || name == "holds" && i == 0)
	}
	strings := 0 // so many arguments are strings
	switch name {
	case "string", "length", "substring":
		strings = 1
	case "concat", "contains", "starts":
		strings = 2
	case "name":
		if len(args[0]) == 0 {
			return list{text("")}
		}
	case "holds":
		if len(args[0]) == 0 || len(args[1]) == 0 {
			return list{truth(false)}
		}
		return list{truth(m.holds(args[0][0], len(args[0]), args[1][0]))}
	}
	var items list
	for i, l := range args {
		switch {
		case i < strings && len(l) == 0:
			items = append(items, text(""))
		case len(l) == 0:
			return nil
		default:
			items = append(items, l[0])
		}
	}
	return m.value(name, append(items, api.Item{}, api.Item{}))
}

// make: P8.4.
func (m *model) make(x api.Expr, l list) list {
	if x.N == api.Text && len(l) == 0 {
		return nil
	}
	top := len(m.l)
	if x.N == api.Elem {
		m.makeElem(x.Name, l)
	} else {
		m.makeLeaf(x, l)
	}
	m.worked(len(m.l) - top)
	return list{node(top)}
}

func (m *model) makeLeaf(x api.Expr, l list) {
	var all []string
	for _, y := range l {
		all = append(all, m.str(y))
	}
	made := api.Node{Kind: x.N, Value: strings.Join(all, " "), Parent: -1}
	if x.N == api.Attr {
		made.Name = x.Name
	}
	valued(len(made.Value) <= api.MaxText)
	m.l = append(m.l, made)
}
