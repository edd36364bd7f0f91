package run_test

import (
	"cmp"
	"fmt"
	"slices"
	"strconv"
	"strings"
	"unicode/utf8"

	"pleacher/api"
	"pleacher/rel"
	"pleacher/stair"
	"pleacher/store"
	"pleacher/xml"
)

// What the promises say, word by word: slow, and written without a look at the program.

// refusal: an error, told by a panic out of the midst of the model.
type refusal api.Errno

// unless something holds, an error is told.
func unless(holds bool, e api.Errno) {
	if !holds {
		panic(refusal(e))
	}
}

func must(e api.Errno) { unless(e == api.OK, e) }

// tried: what a piece of the model tells, or its error.
func tried(do func()) (e api.Errno) {
	defer func() {
		if x := recover(); x != nil {
			e = api.Errno(x.(refusal))
		}
	}()
	do()
	return api.OK
}

func has(cols []string, wanted ...string) bool {
	for _, c := range wanted {
		if !slices.Contains(cols, c) {
			return false
		}
	}
	return true
}

// arguments of each function.
func arguments(name string) (int, bool) {
	for i, l := range []string{
		" data node name string integer one neg length not ",
		" + - * div mod span concat contains starts = != < <= > >= is << >> and or ebv ",
		" substring holds ",
	} {
		if name != "" && strings.Contains(l, " "+name+" ") {
			return i + 1, true
		}
	}
	return 0, false
}

// wantColumns: P7.1 to P7.3.
func wantColumns(p api.Plan) [][]string {
	unless(len(p) <= api.MaxPlan, api.ErrSize)
	unless(len(p) > 0, api.ErrShort)
	var all [][]string
	for i, op := range p {
		unless(1 <= op.Kind && op.Kind <= 15, api.ErrKind)
		many := 1
		switch op.Kind {
		case api.Table, api.Source:
			many = 0
		case api.Join, api.Cross, api.Union, api.Except, api.Build:
			many = 2
		}
		unless(len(op.In) == many, api.ErrCount)
		in := [][]string{nil, nil}
		for k, n := range op.In {
			unless(0 <= n && n < i, api.ErrRange)
			in[k] = all[n]
		}
		wantAlone(op)
		unless(wantNamed(op, in[0], in[1]), api.ErrCols)
		cols := wantColumnsOf(op, in[0], in[1])
		must(rel.Check(api.Rel{Cols: cols}))
		all = append(all, cols)
	}
	unless(has(all[len(p)-1], "pos", "item"), api.ErrCols)
	return all
}

func wantAlone(op api.Op) {
	switch op.Kind {
	case api.Table:
		must(rel.Check(op.Rel))
		for _, x := range slices.Concat(op.Rel.Rows...) {
			unless(x.Kind != api.IsNode, api.ErrValue)
		}
	case api.Group:
		unless(slices.Contains(names("count", "sum", "min", "max"), op.Name), api.ErrNone)
	case api.Apply:
		_, there := arguments(op.Name)
		unless(there, api.ErrNone)
	case api.Walk:
		unless(1 <= op.Axis && op.Axis <= 12 && 1 <= op.Test.Kind && op.Test.Kind <= 5, api.ErrKind)
	case api.Build:
		unless(op.N == api.Elem || op.N == api.Attr || op.N == api.Text, api.ErrKind)
		if op.N != api.Text {
			must(xml.CheckName(op.Name))
		}
	}
}

// wantNamed: are the columns there that an op names, and as many as must be?
func wantNamed(op api.Op, a, b []string) bool {
	switch op.Kind {
	case api.Project:
		return len(op.Cols) == len(op.Olds) && has(a, op.Olds...)
	case api.Select:
		return len(op.Cols) == 1 && has(a, op.Cols...)
	case api.Join:
		return len(op.Cols) == 2 && has(a, op.Cols[0]) && has(b, op.Cols[1])
	case api.Union:
		return slices.Equal(a, b)
	case api.Except:
		return has(a, op.Cols...) && has(b, op.Cols...)
	case api.Unique, api.Sort:
		return has(a, op.Cols...)
	case api.Rank:
		return has(a, op.Cols...) && (op.Part == "" || has(a, op.Part))
	case api.Group:
		return len(op.Cols) == 1 && has(a, op.Cols[0], op.Part)
	case api.Apply:
		n, _ := arguments(op.Name)
		return len(op.Cols) == n && has(a, op.Cols...)
	case api.Walk:
		return has(a, "iter", "item")
	case api.Build:
		return has(a, "iter") && has(b, "iter", "pos", "item")
	}
	return true
}

// wantColumnsOf: P7.2.
func wantColumnsOf(op api.Op, a, b []string) []string {
	switch op.Kind {
	case api.Table:
		return op.Rel.Cols
	case api.Project:
		return op.Cols
	case api.Join, api.Cross:
		return slices.Concat(a, b)
	case api.Rank, api.Apply:
		return slices.Concat(a, names(op.New))
	case api.Group:
		return names(op.Part, op.New)
	case api.Walk, api.Build:
		return names("iter", "item")
	case api.Source:
		return names("item")
	}
	return a
}

// model of an evaluation: the nodes that there are.
type model struct{ l []api.Node }

// wantEval: P7.3.
func wantEval(p api.Plan, l []api.Node) (api.Rel, []api.Node) {
	must(store.Check(l))
	wantColumns(p)
	m := model{slices.Clone(l)}
	var all []api.Rel
	for _, op := range p {
		in := make([]api.Rel, 2)
		for k, n := range op.In {
			in[k] = all[n]
		}
		all = append(all, m.tell(op, in[0], in[1]))
	}
	return all[len(p)-1], m.l
}

func (m *model) tell(op api.Op, a, b api.Rel) api.Rel {
	var r api.Rel
	var e api.Errno
	switch op.Kind {
	case api.Table:
		return op.Rel
	case api.Source:
		unless(len(m.l) > 0, api.ErrNone)
		return api.Rel{Cols: names("item"), Rows: [][]api.Item{{node(0)}}}
	case api.Apply:
		return m.apply(op, a)
	case api.Walk:
		return m.walk(op, a)
	case api.Build:
		return m.build(op, a, b)
	case api.Project:
		r, e = rel.Project(a, op.Cols, op.Olds)
	case api.Select:
		r, e = rel.Select(a, op.Cols[0])
	case api.Join:
		r, e = rel.Join(a, b, op.Cols[0], op.Cols[1])
	case api.Cross:
		r, e = rel.Cross(a, b)
	case api.Union:
		r, e = rel.Union(a, b)
	case api.Except:
		r, e = rel.Except(a, b, op.Cols)
	case api.Unique:
		r, e = rel.Unique(a, op.Cols)
	case api.Rank:
		r, e = rel.Rank(a, op.New, op.Cols, op.Part)
	case api.Sort:
		r, e = rel.Sort(a, op.Cols)
	case api.Group:
		r, e = rel.Group(a, op.New, op.Part, op.Name, op.Cols[0])
	}
	must(e)
	return r
}

// in: a row's item in a column.
func in(r api.Rel, l []api.Item, col string) api.Item { return l[slices.Index(r.Cols, col)] }

// apply: P7.4.
func (m *model) apply(op api.Op, r api.Rel) api.Rel {
	made := api.Rel{Cols: slices.Concat(r.Cols, names(op.New))}
	for _, l := range r.Rows {
		x := make([]api.Item, 3)
		for i, c := range op.Cols {
			x[i] = in(r, l, c)
		}
		made.Rows = append(made.Rows, slices.Concat(l, row(m.value(op.Name, x[0], x[1], x[2]))))
	}
	return made
}

// valued: unless something holds, there is no value.
func valued(holds bool) { unless(holds, api.ErrValue) }

func (m *model) data(x api.Item) api.Item {
	if x.Kind != api.IsNode {
		return x
	}
	s, e := store.Text(m.l, x.N)
	must(e)
	return text(s)
}

func (m *model) str(x api.Item) string {
	d := m.data(x)
	if d.Kind == api.IsText {
		return d.S
	}
	if d.Kind == api.IsInt {
		return fmt.Sprint(d.N)
	}
	return fmt.Sprint(d.N == 1)
}

func isNumber(s string) bool {
	n, err := strconv.ParseInt(s, 10, 64)
	return err == nil && fmt.Sprint(n) == s && -api.MaxInt <= n && n <= api.MaxInt
}

func (m *model) integer(x api.Item) int {
	d := m.data(x)
	if d.Kind != api.IsText {
		return d.N
	}
	valued(isNumber(d.S))
	n, _ := strconv.Atoi(d.S)
	return n
}

// value of a function: P7.4 to P7.6.
func (m *model) value(name string, x, y, z api.Item) api.Item {
	switch name {
	case "data":
		return m.data(x)
	case "node":
		valued(x.Kind == api.IsNode)
		return x
	case "name":
		valued(x.Kind == api.IsNode)
		return text(m.l[x.N].Name)
	case "string":
		return text(m.str(x))
	case "integer":
		return num(m.integer(x))
	case "one":
		valued(x.Kind == api.IsInt && x.N <= 1)
		return x
	case "length":
		return num(utf8.RuneCountInString(m.str(x)))
	case "concat":
		valued(len(m.str(x)+m.str(y)) <= api.MaxText)
		return text(m.str(x) + m.str(y))
	case "contains":
		return truth(strings.Contains(m.str(x), m.str(y)))
	case "starts":
		return truth(strings.HasPrefix(m.str(x), m.str(y)))
	case "substring":
		return m.substring(m.str(x), m.integer(y), m.integer(z))
	case "=", "!=", "<", "<=", ">", ">=":
		return truth(m.compared(name, m.data(x), m.data(y)))
	case "is", "<<", ">>":
		valued(x.Kind == api.IsNode && y.Kind == api.IsNode)
		return truth(said(map[string]string{"is": "=", "<<": "<", ">>": ">"}[name], cmp.Compare(x.N, y.N)))
	case "not":
		valued(x.Kind == api.IsBool)
		return truth(x == no)
	case "and", "or":
		valued(x.Kind == api.IsBool && y.Kind == api.IsBool)
		return truth(x == yes && y == yes || name == "or" && (x == yes || y == yes))
	case "ebv":
		return m.ebv(x, y)
	case "holds":
		valued(y.Kind == api.IsInt && z.Kind == api.IsInt)
		if x.Kind == api.IsInt && y == num(1) {
			return truth(x == z)
		}
		return m.ebv(x, y)
	case "neg":
		return bounded(-m.integer(x))
	}
	return m.reckoned(name, m.integer(x), m.integer(y))
}

func bounded(n int) api.Item {
	valued(-api.MaxInt <= n && n <= api.MaxInt)
	return num(n)
}

func (m *model) reckoned(name string, a, b int) api.Item {
	switch name {
	case "+":
		return bounded(a + b)
	case "-":
		return bounded(a - b)
	case "*":
		valued(a == 0 || b == 0 || float64(a)*float64(b) < 2e12 && float64(a)*float64(b) > -2e12)
		return bounded(a * b)
	case "span":
		valued(b-a+1 <= api.MaxSpan)
		return num(max(b-a+1, 0))
	}
	valued(b != 0)
	if name == "div" {
		return bounded(a / b)
	}
	return bounded(a - a/b*b)
}

func (m *model) substring(s string, from, many int) api.Item {
	made := ""
	for i, r := range []rune(s) {
		if i+1 >= from && i+1 < from+many {
			made += string(r)
		}
	}
	return text(made)
}

// said by a comparison of two in some order.
func said(name string, order int) bool {
	switch order {
	case -1:
		return strings.Contains(" < <= != ", " "+name+" ")
	case 1:
		return strings.Contains(" > >= != ", " "+name+" ")
	}
	return strings.Contains(" = <= >= ", " "+name+" ")
}

func (m *model) compared(name string, a, b api.Item) bool {
	if a.Kind == b.Kind {
		return said(name, rel.Compare(a, b))
	}
	if a.Kind == api.IsInt && b.Kind == api.IsText && isNumber(b.S) {
		return said(name, cmp.Compare(a.N, m.integer(b)))
	}
	if a.Kind == api.IsText && b.Kind == api.IsInt && isNumber(a.S) {
		return said(name, cmp.Compare(m.integer(a), b.N))
	}
	return name == "!="
}

func (m *model) ebv(x, n api.Item) api.Item {
	valued(n.Kind == api.IsInt)
	if x.Kind == api.IsNode {
		return yes
	}
	valued(n.N == 1)
	return truth(x.S != "" || x.N != 0)
}

// walk: P7.7.
func (m *model) walk(op api.Op, r api.Rel) api.Rel {
	made := api.Rel{Cols: names("iter", "item")}
	var done []api.Item
	for _, l := range r.Rows {
		iter := in(r, l, "iter")
		if slices.Contains(done, iter) {
			continue
		}
		done = append(done, iter)
		var ctx []int
		for _, other := range r.Rows {
			x := in(r, other, "item")
			valued(x.Kind == api.IsNode)
			if in(r, other, "iter") == iter {
				ctx = append(ctx, x.N)
			}
		}
		found, e := stair.Walk(m.l, ctx, op.Axis, op.Test)
		must(e)
		for _, n := range found {
			made.Rows = append(made.Rows, row(iter, node(n)))
		}
	}
	return made
}

// build: P7.8.
func (m *model) build(op api.Op, loop, content api.Rel) api.Rel {
	sorted, e := rel.Sort(content, names("pos"))
	must(e)
	made := api.Rel{Cols: names("iter", "item")}
	for _, l := range loop.Rows {
		iter := in(loop, l, "iter")
		var items []api.Item
		for _, other := range sorted.Rows {
			if in(sorted, other, "iter") == iter {
				items = append(items, in(sorted, other, "item"))
			}
		}
		if op.N == api.Text && len(items) == 0 {
			continue
		}
		made.Rows = append(made.Rows, row(iter, node(len(m.l))))
		if op.N == api.Elem {
			m.makeElem(op.Name, items)
		} else {
			m.makeLeaf(op, items)
		}
		unless(len(m.l) <= api.MaxNodes, api.ErrSize)
	}
	return made
}

func (m *model) makeLeaf(op api.Op, items []api.Item) {
	var all []string
	for _, x := range items {
		all = append(all, m.str(x))
	}
	x := api.Node{Kind: op.N, Value: strings.Join(all, " "), Parent: -1}
	if op.N == api.Attr {
		x.Name = op.Name
	}
	valued(xml.CheckText(x.Value) == api.OK)
	m.l = append(m.l, x)
}

func (m *model) makeElem(name string, items []api.Item) {
	top, was := len(m.l), slices.Clone(m.l)
	m.l = append(m.l, elem(name, 0, 0, -1))
	s := ""
	flush := func() {
		valued(len(s) <= api.MaxText)
		if s != "" {
			m.l = append(m.l, leaf(api.Text, s, 1, top))
		}
		s = ""
	}
	for i, x := range items {
		if x.Kind != api.IsNode {
			if i > 0 && items[i-1].Kind != api.IsNode {
				s += " "
			}
			s += m.str(x)
			continue
		}
		n := m.l[x.N]
		valued(n.Kind != api.Doc)
		if n.Kind == api.Text {
			s += n.Value
			continue
		}
		if n.Kind == api.Attr {
			for _, y := range items[:i] {
				valued(y.Kind == api.IsNode && m.l[y.N].Kind == api.Attr && m.l[y.N].Name != n.Name)
			}
		}
		flush()
		var e api.Errno
		m.l, e = store.Copy(was, x.N, m.l, top)
		must(e)
	}
	flush()
	m.l[top].Size = len(m.l) - 1 - top
}
