package lift

import (
	"slices"
	"strings"

	"pleacher/api"
)

// Columns of a plan. Those of a sequence are iter, pos and item; the others stand only on the way to such.
const (
	iterCol  = "iter"
	posCol   = "pos"
	itemCol  = "item"
	outerCol = "outer" // the iteration around
	innerCol = "inner" // the iteration within it
	partCol  = "part"
	placeCol = "place"
	rankCol  = "rank"
	keyCol   = "key"
	valueCol = "value"
)

func number(n int) api.Item { return api.Item{Kind: api.IsInt, N: n} }

func text(s string) api.Item { return api.Item{Kind: api.IsText, S: s} }

func truth(is bool) api.Item {
	if is {
		return api.Item{Kind: api.IsBool, N: 1}
	}
	return api.Item{Kind: api.IsBool}
}

// add an op; its place is told. Its lists are the op's own: whoever adds it has made them for it.
func (l *lifting) add(op api.Op) int {
	l.plan = append(l.plan, op)
	return len(l.plan) - 1
}

// column: a table of one, with an item a row.
func (l *lifting) column(name string, items ...api.Item) int {
	r := api.Rel{Cols: []string{name}}
	for _, x := range items {
		x.S = strings.Clone(x.S)
		r.Rows = append(r.Rows, []api.Item{x})
	}
	return l.add(api.Op{Kind: api.Table, Rel: r})
}

// column that is kept, and its new name.
type renamed struct{ name, old string }

func as(name, old string) renamed { return renamed{name, old} }

func same(name string) renamed { return renamed{name, name} }

func (l *lifting) project(in int, cols ...renamed) int {
	op := api.Op{Kind: api.Project, In: []int{in}}
	for _, c := range cols {
		op.Cols = append(op.Cols, c.name)
		op.Olds = append(op.Olds, c.old)
	}
	return l.add(op)
}

func (l *lifting) choose(in int, col string) int {
	return l.add(api.Op{Kind: api.Select, In: []int{in}, Cols: []string{col}})
}

func (l *lifting) join(a, b int, x, y string) int {
	return l.add(api.Op{Kind: api.Join, In: []int{a, b}, Cols: []string{x, y}})
}

func (l *lifting) cross(a, b int) int {
	return l.add(api.Op{Kind: api.Cross, In: []int{a, b}})
}

// union of any number, at least one: by halves, so that no row goes through more of them than it must.
func (l *lifting) union(all ...int) int {
	if len(all) == 1 {
		return all[0]
	}
	half := len(all) / 2
	a, b := l.union(all[:half]...), l.union(all[half:]...)
	return l.add(api.Op{Kind: api.Union, In: []int{a, b}})
}

func (l *lifting) except(a, b int, cols ...string) int {
	return l.add(api.Op{Kind: api.Except, In: []int{a, b}, Cols: slices.Clone(cols)})
}

func (l *lifting) unique(in int, cols ...string) int {
	return l.add(api.Op{Kind: api.Unique, In: []int{in}, Cols: slices.Clone(cols)})
}

func (l *lifting) rank(in int, name, part string, by ...string) int {
	return l.add(api.Op{Kind: api.Rank, In: []int{in}, New: name, Part: part, Cols: slices.Clone(by)})
}

func (l *lifting) sort(in int, by ...string) int {
	return l.add(api.Op{Kind: api.Sort, In: []int{in}, Cols: slices.Clone(by)})
}

// group the items of each iteration.
func (l *lifting) group(in int, aggregate string) int {
	return l.add(api.Op{Kind: api.Group, In: []int{in}, New: itemCol, Part: iterCol, Name: aggregate, Cols: []string{itemCol}})
}

func (l *lifting) apply(in int, function string, cols ...string) int {
	return l.add(api.Op{Kind: api.Apply, In: []int{in}, New: valueCol, Name: function, Cols: slices.Clone(cols)})
}
