package run_test

import (
	"reflect"
	"slices"
	"testing"

	"pleacher/api"
	"pleacher/run"
)

// roomy: the same list, with spare room, in which something stands.
func roomy[T any](l []T, spare T) []T {
	l = append(slices.Clone(l), spare, spare)
	return l[:len(l)-2]
}

// roomyPlan: all its lists have spare room.
func roomyPlan(p api.Plan) api.Plan {
	p = slices.Clone(p)
	for i := range p {
		op := &p[i]
		op.In = roomy(op.In, 77)
		op.Cols, op.Olds = roomy(op.Cols, "spare"), roomy(op.Olds, "spare")
		op.Rel.Cols = roomy(op.Rel.Cols, "spare")
		op.Rel.Rows = roomy(op.Rel.Rows, row(num(77)))
		for j := range op.Rel.Rows {
			op.Rel.Rows[j] = roomy(op.Rel.Rows[j], num(77))
		}
	}
	return api.Plan(roomy([]api.Op(p), api.Op{Kind: 77}))
}

// whole: a list with its spare room.
func whole[T any](l []T) []T { return l[:cap(l)] }

// wholePlan: a copy of a plan in which all spare room shows.
func wholePlan(p api.Plan) api.Plan {
	p = slices.Clone(whole(p))
	for i := range p {
		op := &p[i]
		op.In, op.Cols, op.Olds = slices.Clone(whole(op.In)), slices.Clone(whole(op.Cols)), slices.Clone(whole(op.Olds))
		op.Rel.Cols, op.Rel.Rows = slices.Clone(whole(op.Rel.Cols)), slices.Clone(whole(op.Rel.Rows))
		for j := range op.Rel.Rows {
			op.Rel.Rows[j] = slices.Clone(whole(op.Rel.Rows[j]))
		}
	}
	return p
}

func overwrite(cols [][]string, r api.Rel, l []api.Node) {
	for _, c := range append(cols, r.Cols) {
		for i := range whole(c) {
			whole(c)[i] = "over"
		}
	}
	for _, x := range r.Rows {
		for i := range whole(x) {
			whole(x)[i] = num(99)
		}
	}
	clear(whole(l))
}

// What is handed in stays as it is, its spare room too; answers share no memory with it, or with one another.
func TestGivenStays(t *testing.T) {
	for kind, op := range ofAllKinds() {
		p := append(two(), op)
		cols, e := run.Columns(append(slices.Clone(p), last()))
		if e != api.OK {
			t.Fatal(e)
		}
		if !has(cols[2], "pos", "item") {
			p = append(p, last(), api.Op{Kind: api.Cross, In: at(3, 1)})
		}
		if op.Kind == api.Walk {
			p[2] = api.Op{Kind: api.Build, In: at(0, 0), N: api.Attr, Name: "k"}
			p = append(p[:3], api.Op{Kind: api.Walk, In: at(2), Axis: api.Self, Test: anyNode}, api.Op{Kind: api.Rank, In: at(3), New: "pos"})
		}
		p = roomyPlan(p)
		l := roomy(sample(t), api.Node{Kind: 77})
		was, wasNodes := wholePlan(p), slices.Clone(whole(l))
		cols, e = run.Columns(p)
		r, made, f := run.Eval(p, l)
		if e != api.OK || f != api.OK {
			t.Fatalf("Kind %d: %d %d", kind+1, e, f)
		}
		wantCols, _ := run.Columns(p)
		wantRel, wantMade, _ := run.Eval(p, l)
		overwrite(cols, r, made)
		if !reflect.DeepEqual(wholePlan(p), was) || !slices.Equal(whole(l), wasNodes) {
			t.Errorf("Kind %d: what was handed in is %v", kind+1, p)
		}
		cols, _ = run.Columns(p)
		r, made, _ = run.Eval(p, l)
		if !slices.EqualFunc(cols, wantCols, slices.Equal) || !sameRel(r, wantRel) || !slices.Equal(made, wantMade) {
			t.Errorf("Kind %d: %v %v %v, want %v %v %v", kind+1, cols, r, made, wantCols, wantRel, wantMade)
		}
	}
}

// No two lists of one answer share memory: each is overwritten, spare room too, and no other one is changed by it.
func TestAnswersApart(t *testing.T) {
	p := append(two(), ofAllKinds()...)
	p = append(p[:2+api.Walk-1], p[2+api.Walk:]...)
	p = append(p, table("pos item", row(num(1), num(2)), row(num(3), num(4))))
	cols, e := run.Columns(p)
	if e != api.OK {
		t.Fatal(e)
	}
	for i := range cols {
		for j := range whole(cols[i]) {
			if s := whole(cols[i])[j]; j < len(cols[i]) && s == "over" {
				t.Errorf("op %d shares its columns", i)
			}
			whole(cols[i])[j] = "over"
		}
	}
	p = append(p, api.Op{Kind: api.Union, In: at(len(p)-1, len(p)-1)})
	r, _, e := run.Eval(p, sample(t))
	if e != api.OK {
		t.Fatal(e)
	}
	for _, l := range r.Rows {
		for j := range whole(l) {
			if j < len(l) && l[j] == text("over") {
				t.Errorf("rows share memory: %v", r)
			}
			whole(l)[j] = text("over")
		}
	}
}
