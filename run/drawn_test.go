package run_test

import (
	"slices"
	"testing"

	"pleacher/api"
	"pleacher/run"
	"pleacher/store"
)

// die: numbers that look drawn, the same in each run.
type die uint64

func (d *die) below(n int) int {
	*d = *d*6364136223846793005 + 1442695040888963407
	return int(uint64(*d>>33) % uint64(n))
}

// slip: something wrong, now and then.
func (d *die) slip() bool { return d.below(40) == 0 }

func (d *die) one(l ...string) string { return l[d.below(len(l))] }

func (d *die) item() api.Item {
	if d.slip() {
		return row(api.Item{}, node(0), num(api.MaxInt+1), text("\xff"))[d.below(4)]
	}
	return row(num(0), num(1), num(1), num(2), num(-1), num(3), num(api.MaxInt), num(-api.MaxInt), text(""), text("a"), text("1"), text("éa"), yes, no)[d.below(14)]
}

// table with few iters, so that many rows have the same one.
func (d *die) table() api.Op {
	op := table(d.one("iter pos item", "iter pos item", "a b", "iter", "iter pos", "pos item", "c", ""))
	kind := d.below(4)
	for range d.below(6) {
		var l []api.Item
		for _, c := range op.Rel.Cols {
			x := d.item()
			switch {
			case c == "iter":
				x = num(1 + d.below(3))
			case kind == 0:
				x = num(d.below(4))
			case kind == 1:
				x = row(yes, no)[d.below(2)]
			}
			l = append(l, x)
		}
		op.Rel.Rows = append(op.Rel.Rows, l)
	}
	return op
}

// names of columns: those that there are, but for slips.
func (d *die) names(n int, cols []string) []string {
	var l []string
	for range n {
		if len(cols) == 0 || d.slip() {
			l = append(l, d.one("iter", "pos", "item", "q", ""))
		} else {
			l = append(l, d.one(cols...))
		}
	}
	return l
}

func (d *die) function() string {
	return d.one("data", "node", "name", "string", "integer", "one", "neg", "length", "not", "+", "-", "*", "div", "mod", "span", "concat",
		"contains", "starts", "=", "!=", "<", "<=", ">", ">=", "is", "<<", ">>", "and", "or", "ebv", "substring", "holds")
}

// op over those ahead, of which the columns are told; the last ones are taken the most.
func (d *die) op(ahead [][]string) api.Op {
	op := api.Op{Kind: 1 + d.below(15), Part: "", New: d.one("n", "v", "w", "pos", "item", "iter"), N: 1 + d.below(3), Name: "e", Axis: 1 + d.below(12),
		Test: api.Test{Kind: 1 + d.below(5), Name: d.one("a", "b", "k")}}
	if op.Kind == api.Table {
		return d.table()
	}
	place := func() int {
		n := len(ahead)
		return max(d.below(n), d.below(n))
	}
	a, b := place(), place()
	op.In = at(a, b)
	first := ahead[a]
	switch op.Kind {
	case api.Source:
		op.In = nil
	case api.Join, api.Except:
		op.Cols = slices.Concat(d.names(1, first), d.names(1, ahead[b]))
		if op.Kind == api.Except {
			op.Cols = op.Cols[:d.below(2)]
		}
	case api.Cross, api.Build:
	case api.Union:
		for n := range ahead {
			if slices.Equal(ahead[n], first) && d.below(2) == 0 {
				op.In[1] = n
			}
		}
	default:
		op.In = at(a)
		d.unary(&op, first)
	}
	if d.slip() {
		d.spoil(&op)
	}
	return op
}

// unary: what an op with one input has beside that.
func (d *die) unary(op *api.Op, cols []string) {
	switch op.Kind {
	case api.Project:
		op.Cols, op.Olds = names("iter", "pos", "item"), d.names(3, cols)
		if d.below(3) > 0 && has(cols, "iter") {
			op.Olds[0] = "iter"
		}
		if d.below(3) == 0 {
			op.Cols[d.below(3)] = d.one("a", "b", "iter")
		}
	case api.Select, api.Group:
		op.Cols = d.names(1, cols)
		op.Part = d.names(1, cols)[0]
		op.Name = d.one("count", "count", "sum", "min", "max")
	case api.Apply:
		op.Name = d.function()
		n, _ := arguments(op.Name)
		op.Cols = d.names(n, cols)
	case api.Rank:
		op.Part = d.names(1, cols)[0]
		if d.below(2) == 0 {
			op.Part = ""
		}
		op.Cols = d.names(d.below(3), cols)
	case api.Unique, api.Sort:
		op.Cols = d.names(d.below(3), cols)
	}
}

func (d *die) spoil(op *api.Op) {
	switch d.below(9) {
	case 0:
		op.Kind = d.below(2) * 16
	case 1:
		op.In = append(op.In, 0)
	case 2:
		op.In = slices.Repeat(at(d.below(20)-1), len(op.In))
	case 3:
		op.New = d.one("", tooLong)
	case 4:
		op.Name = d.one("", "none", "1")
	case 5:
		op.N = d.below(9)
	case 6:
		op.Axis = d.below(2) * 13
	case 7:
		op.Test.Kind = d.below(2) * 6
	default:
		op.Cols = append(op.Cols, "iter")
	}
}

// plan: nodes in two iterations, then whatever is drawn, then at times what makes the last one tell pos and item.
func (d *die) plan() api.Plan {
	p := api.Plan{
		{Kind: api.Source},
		table("iter", row(num(1)), row(num(2))),
		{Kind: api.Cross, In: at(1, 0)},
		{Kind: api.Walk, In: at(2), Axis: 1 + d.below(4), Test: anyNode},
		{Kind: api.Walk, In: at(3), Axis: api.Attribute, Test: anyNode},
		{Kind: api.Rank, In: at(3 + d.below(2)), New: "pos", Cols: names("item"), Part: "iter"},
		d.table(),
	}
	for range d.below(12) {
		var ahead [][]string
		if tried(func() { ahead = wantColumns(append(slices.Clone(p), last())) }) != api.OK {
			break
		}
		// An op that has no value ends most plans: of a few that are drawn one that has is taken.
		for range 1 + d.below(4) {
			op := d.op(ahead[:len(p)])
			with := append(slices.Clone(p), op)
			if e := tried(func() { wantEval(append(slices.Clone(with), last()), drawnOver()) }); e == api.OK || d.below(6) == 0 {
				p = with
				break
			}
		}
	}
	return d.ended(p)
}

// ended: the last op tells pos and item, if it can.
func (d *die) ended(p api.Plan) api.Plan {
	var ahead [][]string
	if tried(func() { ahead = wantColumns(append(slices.Clone(p), last())) }) != api.OK {
		return p
	}
	cols := ahead[len(p)-1]
	if has(cols, "pos", "item") || len(cols) == 0 || d.slip() {
		return p
	}
	return append(p, api.Op{Kind: api.Project, In: at(len(p) - 1), Cols: names("iter", "pos", "item"), Olds: d.names(3, cols)})
}

// drawnOver: the nodes over which plans are drawn: a document, an attribute and an element.
func drawnOver() []api.Node {
	l := nodes(api.Node{Kind: api.Doc, Size: 8, Parent: -1}, elem("r", 7, 1, 0), attr("k", "1", 2, 1), elem("a", 2, 2, 1), attr("b", "x", 3, 3),
		leaf(api.Text, "2", 3, 3), leaf(api.Text, "é", 2, 1), elem("b", 0, 2, 1), leaf(api.Comment, "c", 2, 1))
	return append(l, attr("k", "3", 0, -1), elem("a", 0, 0, -1))
}

// All promises at once: Columns and Eval are what the words say, on drawn plans.
func TestDrawn(t *testing.T) {
	d := die(7)
	l := drawnOver()
	kinds := make([]int, 16) // how often an op of each Kind was told
	built, errors := 0, map[api.Errno]int{}
	for range 20000 {
		p := d.plan()
		var cols [][]string
		e := tried(func() { cols = wantColumns(p) })
		if got, f := run.Columns(p); f != e || !slices.EqualFunc(got, cols, slices.Equal) {
			t.Fatalf("Columns of %v: %v %d, want %v %d", p, got, f, cols, e)
		}
		var r api.Rel
		var made []api.Node
		e = tried(func() { r, made = wantEval(p, l) })
		got, after, f := run.Eval(p, l)
		if f != e || !sameRel(got, r) || !slices.Equal(after, made) {
			t.Fatalf("Eval of %v: %v %v %d, want %v %v %d", p, got, after, f, r, made, e)
		}
		errors[e]++
		if e != api.OK {
			continue
		}
		if store.Check(after) != api.OK {
			t.Fatalf("Eval of %v: %v", p, after)
		}
		built += len(after) - len(l)
		for _, op := range p {
			kinds[op.Kind]++
		}
	}
	for kind, n := range kinds[1:] {
		if n < 300 {
			t.Errorf("Kind %d: %d", kind+1, n)
		}
	}
	if errors[api.OK] < 8000 || errors[api.ErrValue] < 500 || errors[api.ErrCols] < 500 || len(errors) < 10 || built < 5000 {
		t.Errorf("outcomes %v, %d nodes", errors, built)
	}
}
