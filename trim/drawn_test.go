package trim_test

import (
	"slices"
	"testing"

	"pleacher/api"
	"pleacher/core"
	"pleacher/lift"
	"pleacher/read"
	"pleacher/run"
	"pleacher/trim"
)

// die: numbers that look drawn, the same in each run.
type die uint64

func (d *die) below(n int) int {
	*d = *d*6364136223846793005 + 1442695040888963407
	return int(uint64(*d>>33) % uint64(n))
}

func (d *die) one(l ...string) string { return l[d.below(len(l))] }

func (d *die) item() api.Item {
	return row(num(0), num(1), num(1), num(2), num(-1), text(""), text("a"), text("1"), yes, no)[d.below(10)]
}

// table with few items, so that many are the same.
func (d *die) table() api.Op {
	op := table(d.one("iter pos item", "iter pos item", "pos item", "iter", "a b"))
	kind := d.below(3)
	for range d.below(3) {
		var l []api.Item
		for _, c := range op.Rel.Cols {
			x := d.item()
			switch {
			case c == "iter" || kind == 0:
				x = num(1 + d.below(2))
			case kind == 1:
				x = row(yes, no)[d.below(2)]
			}
			l = append(l, x)
		}
		op.Rel.Rows = append(op.Rel.Rows, l)
	}
	return op
}

// names of columns that there are.
func (d *die) names(n int, cols []string) []string {
	var l []string
	for range n {
		l = append(l, d.one(cols...))
	}
	return l
}

// partner: one of those ahead, if there is one, whose columns fit.
func (d *die) partner(ahead [][]string, fits func(cols []string) bool) int {
	b := d.below(len(ahead))
	for i := range ahead {
		if n := (b + i) % len(ahead); fits(ahead[n]) {
			return n
		}
	}
	return b
}

// op over those ahead, of which the columns are told; many are not as they may be.
func (d *die) op(ahead [][]string) api.Op {
	op := api.Op{Kind: 1 + d.below(15), New: d.one("n", "v", "pos", "item"), N: 1 + d.below(3), Name: d.one("e", "k"), Axis: 1 + d.below(12),
		Test: api.Test{Kind: 1 + d.below(5), Name: d.one("a", "k")}}
	a := d.below(len(ahead))
	op.In = at(a)
	cols := ahead[a]
	b := d.partner(ahead, func(l []string) bool {
		return slices.Equal(l, cols) == (op.Kind == api.Union) && !(op.Kind == api.Join && slices.Contains(l, cols[0]))
	})
	switch op.Kind {
	case api.Table:
		return d.table()
	case api.Source:
		op.In = nil
	case api.Join, api.Except:
		op.In, op.Cols = at(a, b), slices.Concat(d.names(1, cols), d.names(1, ahead[b]))
	case api.Cross, api.Build, api.Union:
		op.In = at(a, b)
	case api.Project:
		op.Cols, op.Olds = names("iter", "pos", "item"), d.names(3, cols)
	case api.Select, api.Group:
		op.Cols, op.Part, op.Name = d.names(1, cols), d.names(1, cols)[0], d.one("count", "sum", "min", "max")
	case api.Apply:
		op.Name = d.one("data", "node", "string", "integer", "not", "+", "=", "is", "ebv")
		op.Cols = d.names(1+d.below(2), cols)
	case api.Rank:
		op.Cols, op.Part = d.names(d.below(3), cols), d.one("", cols[0])
	case api.Unique, api.Sort:
		op.Cols = d.names(d.below(3), cols)
	}
	return op
}

// again: an op that is there already, with junk beside it, or made of others.
func (d *die) again(p api.Plan) api.Op {
	op := junk(p[d.below(len(p))])
	op.In = slices.Clone(op.In)
	if len(op.In) > 0 && d.below(4) == 0 {
		op.In[0] = d.below(len(p))
	}
	return op
}

// columnsOf all ops of a plan, whether or not it may end so; nil: it may not be.
func columnsOf(p api.Plan) [][]string {
	cols, e := run.Columns(append(slices.Clone(p), last()))
	if e != api.OK {
		return nil
	}
	return cols[:len(p)]
}

// plan that may be: nodes in two iterations, then whatever is drawn. An op that is refused ends most plans: few are taken.
func (d *die) plan(over []api.Node) api.Plan {
	p := api.Plan{d.table(), table("iter", row(num(1)), row(num(2)))}
	if d.below(3) > 0 {
		p = append(p, api.Op{Kind: api.Source}, api.Op{Kind: api.Cross, In: at(1, 2)},
			api.Op{Kind: api.Walk, In: at(3), Axis: 1 + d.below(4), Test: anyNode}, api.Op{Kind: api.Rank, In: at(4), New: "pos", Part: "iter"})
	}
	for range d.below(40) {
		op := d.again(p)
		if d.below(3) > 0 {
			op = d.op(columnsOf(p))
		}
		with := append(slices.Clone(p), op)
		if columnsOf(with) == nil {
			continue
		}
		if _, _, e := run.Eval(append(slices.Clone(with), last()), over); e == api.OK || d.below(30) == 0 {
			p = with
		}
	}
	return d.ended(p)
}

// ended: the last op tells pos and item.
func (d *die) ended(p api.Plan) api.Plan {
	var ends []int // ops that do
	cols := columnsOf(p)
	for i, l := range cols {
		if slices.Contains(l, "pos") && slices.Contains(l, "item") {
			ends = append(ends, i)
		}
	}
	n := len(p) - 1
	switch {
	case len(ends) > 0 && d.below(3) == 0: // one that is there already
		return append(p, junk(p[ends[d.below(len(ends))]]))
	case len(ends) > 0 && d.below(2) == 0:
		return append(p, project(ends[d.below(len(ends))], "item", "pos"))
	case slices.Contains(ends, n):
		return p
	}
	return append(p, api.Op{Kind: api.Project, In: at(n), Cols: names("iter", "pos", "item"), Olds: d.names(3, cols[n])})
}

// All promises at once, on drawn plans, over nodes of all sorts.
func TestDrawn(t *testing.T) {
	d := die(9)
	over := overs(t)
	errors := map[api.Errno]int{}
	kinds := make([]int, api.Sort+1) // how many ops of each Kind there were, and how many are left
	left := make([]int, api.Sort+1)
	for range 4000 {
		p := d.plan(over[d.below(2)*3])
		q := trimmed(t, p, errors)
		for _, op := range p {
			kinds[op.Kind]++
		}
		for _, op := range q {
			left[op.Kind]++
		}
		if t.Failed() {
			return
		}
	}
	for kind := api.Table; kind <= api.Sort; kind++ {
		if left[kind] < 100 || kinds[kind] < left[kind]+100 && kind != api.Build {
			t.Errorf("Kind %d: %d of %d", kind, left[kind], kinds[kind])
		}
	}
	if errors[api.OK] < 4000 || errors[api.ErrValue] < 500 || errors[api.ErrNone] < 500 || errors[api.ErrForm] != 4000 {
		t.Errorf("outcomes %v", errors)
	}
}

// lifted: the plan of a query.
func lifted(t *testing.T, s string) api.Plan {
	t.Helper()
	tokens, _, e := read.Cut(s)
	if e != api.OK {
		t.Fatalf("Cut(%q): %d", s, e)
	}
	phrase, _, e := read.Parse(tokens)
	if e != api.OK {
		t.Fatalf("Parse(%q): %d", s, e)
	}
	x, e := core.Lower(phrase)
	if e != api.OK {
		t.Fatalf("Lower(%q): %d", s, e)
	}
	p, e := lift.Lift(x)
	if e != api.OK {
		t.Fatalf("Lift(%q): %d", s, e)
	}
	return p
}

// All promises at once, on plans of queries: most of these have much that is there twice.
func TestQueries(t *testing.T) {
	errors := map[api.Errno]int{}
	for _, s := range []string{
		"1, 2, 1, 2", "()", "//a", "//a[1], //a[1]", "(//a union //b) except //a[1]", "count(//@k), sum(//@k)", "sum(//a)", "1 div 0", "(1 div 0, //a)",
		"for $x in //a where $x/@k > 1 return $x", "for $x at $i in (//a, //b) order by $i descending return ($i, name($x))",
		"element e { /r/a[1]/@b, \"x\" }, element e { /r/a[1]/@b, \"x\" }", "element e { //a, //@k }", "for $x in //node() return text { $x, $x }",
		"let $x := element e { 1 } return ($x is $x, $x is element e { 1 })", "if (//b) then //a else 1 + \"x\"", "let $x := 1 div 0 return 2",
		"some $x in //a satisfies $x = 1", "every $x in //a satisfies name($x) = \"a\"", "distinct-values((//a, //a, 1))", "reverse(1 to 4)",
		"attribute k { //@k }, attribute k { () }", "substring(string(/r), 1, 2)", "/r/*/..[count(*) = 2]", "-integer(string(//a[1]))",
	} {
		p := lifted(t, s)
		q := trimmed(t, p, errors)
		if len(q) > len(p) {
			t.Errorf("%s: %d ops of %d", s, len(q), len(p))
		}
	}
	p, twice := lifted(t, "//a[1]/@k"), lifted(t, "//a[1]/@k, //a[1]/@k")
	q, _ := trim.Trim(p)
	r, _ := trim.Trim(twice)
	if len(r) > len(q)+10 {
		t.Errorf("a query that is there twice: %d ops, once %d", len(r), len(q))
	}
	if errors[api.OK] < 30 || errors[api.ErrValue] < 10 {
		t.Errorf("outcomes %v", errors)
	}
}
