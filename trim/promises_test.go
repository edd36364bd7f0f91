package trim_test

import (
	"reflect"
	"slices"
	"testing"

	"pleacher/api"
	"pleacher/run"
	"pleacher/trim"
)

// answer: the rows of a relation in the columns pos and item, in their order.
func answer(r api.Rel) [][]api.Item {
	pos, item := slices.Index(r.Cols, "pos"), slices.Index(r.Cols, "item")
	var rows [][]api.Item
	for _, x := range r.Rows {
		rows = append(rows, row(x[pos], x[item]))
	}
	return rows
}

func sameRows(a, b [][]api.Item) bool { return slices.EqualFunc(a, b, slices.Equal) }

// checkTold: P9.1, over nodes: what a trimmed plan tells is what the plan tells.
func checkTold(t *testing.T, p, q api.Plan, l []api.Node) api.Errno {
	t.Helper()
	want, after, e := run.Eval(p, l)
	if e == api.ErrSize && len(p) <= api.MaxPlan { // then it may tell whatever it does
		return e
	}
	got, made, f := run.Eval(q, l)
	if f != e {
		t.Errorf("over %d nodes: refused %d, want %d\n%v\n%v", len(l), f, e, p, q)
		return e
	}
	if e != api.OK {
		return e
	}
	if !slices.Equal(got.Cols, names("pos", "item")) || !sameRows(got.Rows, answer(want)) {
		t.Errorf("over %d nodes: %v, want %v\n%v\n%v", len(l), got, want, p, q)
	}
	if !slices.Equal(made, after) {
		t.Errorf("over %d nodes: there are %v, want %v\n%v\n%v", len(l), made, after, p, q)
	}
	return e
}

// plain: an op with just what its Kind has, told by an op of which nothing else is beside it; lists without elements are nil.
func plain(op api.Op) api.Op {
	other := junk(api.Op{Kind: op.Kind})
	l := api.Op{Kind: op.Kind, In: slices.Concat(op.In)}
	if other.New == "" {
		l.New = op.New
	}
	if other.Cols == nil {
		l.Cols = slices.Concat(op.Cols)
	}
	if other.Olds == nil {
		l.Olds = slices.Concat(op.Olds)
	}
	if other.Part == "" {
		l.Part = op.Part
	}
	if other.Name == "" && !(op.Kind == api.Build && op.N == api.Text) {
		l.Name = op.Name
	}
	if other.N == 0 {
		l.N = op.N
	}
	if other.Axis == 0 {
		l.Axis, l.Test.Kind = op.Axis, op.Test.Kind
		if op.Test.Kind == api.NameTest {
			l.Test.Name = op.Test.Name
		}
	}
	if op.Kind == api.Table {
		l.Rel.Cols, l.Rel.Rows = slices.Concat(op.Rel.Cols), slices.Concat(op.Rel.Rows)
		for i, x := range l.Rel.Rows {
			l.Rel.Rows[i] = slices.Concat(x)
		}
	}
	return l
}

// nilled: an op whose lists are nil, if they have no elements.
func nilled(op api.Op) api.Op {
	op.In, op.Cols, op.Olds = slices.Concat(op.In), slices.Concat(op.Cols), slices.Concat(op.Olds)
	op.Rel.Cols, op.Rel.Rows = slices.Concat(op.Rel.Cols), slices.Concat(op.Rel.Rows)
	for i, x := range op.Rel.Rows {
		op.Rel.Rows[i] = slices.Concat(x)
	}
	return op
}

// stays: does P9.2 let an op of which none is made stand there?
func stays(op api.Op) bool {
	return slices.Contains(at(api.Select, api.Apply, api.Walk, api.Build, api.Source), op.Kind) || op.Kind == api.Group && op.Name != "count"
}

// checkForm: P9.2, and that no op has something beside what its Kind has.
func checkForm(t *testing.T, p, q api.Plan) {
	t.Helper()
	if len(q) > len(p)+1 || len(q) > api.MaxPlan {
		t.Errorf("%d ops of %d", len(q), len(p))
	}
	used := make([]bool, len(q))
	for _, op := range q {
		for _, n := range op.In {
			used[n] = true
		}
	}
	for i, op := range q {
		if !reflect.DeepEqual(nilled(op), plain(op)) {
			t.Errorf("op %d has something beside: %v", i, op)
		}
		if i == len(q)-1 {
			break
		}
		if !used[i] && !stays(op) {
			t.Errorf("op %d is there for nothing\n%v\n%v", i, p, q)
		}
		for j := range i {
			if op.Kind != api.Build && reflect.DeepEqual(plain(op), plain(q[j])) {
				t.Errorf("ops %d and %d are the same\n%v\n%v", j, i, p, q)
			}
		}
	}
}

// trimmed: a plan that may be, trimmed; all promises must hold of it. How often each error came is counted.
func trimmed(t *testing.T, p api.Plan, errors map[api.Errno]int) api.Plan {
	t.Helper()
	q, e := trim.Trim(p)
	if e != api.OK {
		t.Fatalf("refused %d: %v", e, p)
	}
	checkForm(t, p, q)
	for _, l := range overs(t) {
		f := checkTold(t, p, q, l)
		if errors != nil {
			errors[f]++
		}
	}
	again, e := trim.Trim(q)
	if e != api.OK || len(again) != len(q) {
		t.Errorf("P9.3: trimmed once more: %d ops of %d, %d\n%v\n%v", len(again), len(q), e, q, again)
	}
	return q
}
