package trim_test

import (
	"reflect"
	"slices"
	"testing"

	"pleacher/api"
	"pleacher/trim"
)

// roomy: the same list, with spare room, in which something stands.
func roomy[T any](l []T, spare T) []T {
	l = append(slices.Clone(l), spare, spare)
	return l[:len(l)-2]
}

// roomyPlan: all its lists have spare room.
func roomyPlan(p api.Plan) api.Plan {
	p = slices.Clone(p)
	for i := range p {
		op := &p[i]
		op.In, op.Cols, op.Olds = roomy(op.In, 77), roomy(op.Cols, "spare"), roomy(op.Olds, "spare")
		op.Rel.Cols, op.Rel.Rows = roomy(op.Rel.Cols, "spare"), roomy(op.Rel.Rows, row(num(77)))
		for j := range op.Rel.Rows {
			op.Rel.Rows[j] = roomy(op.Rel.Rows[j], num(77))
		}
	}
	return api.Plan(roomy([]api.Op(p), api.Op{Kind: 77}))
}

// whole: a list with its spare room.
func whole[T any](l []T) []T { return l[:cap(l)] }

// wholePlan: a copy of a plan in which all spare room shows.
func wholePlan(p api.Plan) api.Plan {
	p = slices.Clone(whole(p))
	for i := range p {
		op := &p[i]
		op.In, op.Cols, op.Olds = slices.Clone(whole(op.In)), slices.Clone(whole(op.Cols)), slices.Clone(whole(op.Olds))
		op.Rel.Cols, op.Rel.Rows = slices.Clone(whole(op.Rel.Cols)), slices.Clone(whole(op.Rel.Rows))
		for j := range op.Rel.Rows {
			op.Rel.Rows[j] = slices.Clone(whole(op.Rel.Rows[j]))
		}
	}
	return p
}

// all: plans in which each Kind is, and those that end in their ways; many of their lists are one.
func all() []api.Plan {
	var used api.Plan
	for i, op := range append(three(), ofAllKinds()...) {
		used = append(used, op, op)
		for j, n := range op.In {
			used[2*i].In, used[2*i+1].In = slices.Clone(used[2*i].In), slices.Clone(used[2*i+1].In)
			used[2*i].In[j], used[2*i+1].In[j] = 2*n, 2*n+1
		}
	}
	kept := slices.Clone(used)
	for i, op := range used {
		switch op.Kind {
		case api.Table, api.Walk, api.Build, api.Source, api.Select, api.Apply, api.Group, api.Project:
			continue
		}
		kept = append(kept, choose(i, "iter"))
	}
	cols := names("pos", "item")
	end := api.Op{Kind: api.Project, In: at(0), Cols: cols, Olds: cols}
	return []api.Plan{append(slices.Clone(kept), last()), append(slices.Clone(kept), end), append(slices.Clone(kept), project(0, "iter", "item", "pos")),
		append(slices.Clone(kept), used[0]), append(slices.Clone(kept), used[len(used)-1])}
}

// What is handed in stays as it is, its spare room too; what is answered hangs on that alone, and shares no memory with it.
func TestGivenStays(t *testing.T) {
	for i, p := range all() {
		trimmed(t, p, nil)
		p = roomyPlan(p)
		was := wholePlan(p)
		q, e := trim.Trim(p)
		again, f := trim.Trim(p)
		if e != api.OK || f != api.OK || !reflect.DeepEqual(q, again) {
			t.Fatalf("plan %d: %v %d, then %v %d", i, q, e, again, f)
		}
		overwrite(t, q)
		if !reflect.DeepEqual(wholePlan(p), was) {
			t.Errorf("plan %d: what was handed in is %v", i, p)
		}
		if q, e := trim.Trim(p); e != api.OK || !reflect.DeepEqual(q, again) {
			t.Errorf("plan %d: the next answer is %v %d", i, q, e)
		}
	}
}

// over a list, spare room too; no other list of the answer may have been written over it.
func over[T any](t *testing.T, l []T, with T) {
	t.Helper()
	for i := range whole(l) {
		if reflect.DeepEqual(whole(l)[i], with) {
			t.Errorf("lists share memory: %v", whole(l))
		}
		whole(l)[i] = with
	}
}

// overwrite all lists of an answer.
func overwrite(t *testing.T, p api.Plan) {
	t.Helper()
	for _, op := range p {
		over(t, op.In, -7)
		over(t, op.Cols, "over")
		over(t, op.Olds, "over")
		over(t, op.Rel.Cols, "over")
		for _, l := range op.Rel.Rows {
			over(t, l, text("over"))
		}
		over(t, op.Rel.Rows, row(text("over")))
	}
	over(t, p, api.Op{Kind: -7})
}
