package lift_test

import (
	"reflect"
	"slices"
	"testing"

	"pleacher/api"
	"pleacher/lift"
	"pleacher/run"
)

// ofAllKinds: an expression of which each Kind is a part, and all sorts of functions.
func ofAllKinds() api.Expr {
	all := step(api.Descendant, api.NameTest, "a", root())
	body := seq(v("x"), v("y"), call("to", n(1), v("y")), cond(call("=", v("x"), s("1")), call("substring", s("abc"), v("y"), n(1)), call("string", v("z"))))
	key := call("neg", call("count", v("z")))
	makes := seq(made(api.Elem, "e", seq(s("x"), v("z"))), made(api.Attr, "k", s("v")), made(api.Text, "beside", step(api.Child, api.AnyNode, "beside", root())))
	return let("z", call("distinct", all), seq(loop("x", "y", all, body), sorted("x", "y", 1, all, key, body), makes, call("union", all, root()), call("and", n(1), seq())))
}

// roomy: the same expression; all its lists have spare room, in which something stands.
func roomy(x api.Expr) api.Expr {
	var args []api.Expr
	for _, y := range x.Args {
		args = append(args, roomy(y))
	}
	args = append(args, n(77), n(77))
	x.Args = args[:len(args)-2]
	return x
}

// whole: a copy of an expression in which all spare room shows.
func whole(x api.Expr) api.Expr {
	args := slices.Clone(x.Args[:cap(x.Args)])
	for i := range args {
		args[i] = whole(args[i])
	}
	x.Args = args
	return x
}

// lists of a plan, each by what overwrites it, spare room too.
func overwrite(p api.Plan) {
	for _, op := range p {
		for i := range op.In[:cap(op.In)] {
			op.In[:cap(op.In)][i] = -7
		}
		for _, l := range [][]string{op.Cols, op.Olds, op.Rel.Cols} {
			for i := range l[:cap(l)] {
				l[:cap(l)][i] = "over"
			}
		}
		for _, l := range op.Rel.Rows {
			for i := range l[:cap(l)] {
				l[:cap(l)][i] = text("over")
			}
		}
		clear(op.Rel.Rows[:cap(op.Rel.Rows)])
	}
	clear(p[:cap(p)])
}

// What is handed in stays as it is, its spare room too; what is answered hangs on that alone, and shares no memory with it.
func TestGivenStays(t *testing.T) {
	x := roomy(ofAllKinds())
	was := whole(x)
	p, e := lift.Lift(x)
	again, f := lift.Lift(x)
	if e != api.OK || f != api.OK || !reflect.DeepEqual(p, again) {
		t.Fatalf("%v %d, then %v %d", p, e, again, f)
	}
	overwrite(p)
	if !reflect.DeepEqual(whole(x), was) {
		t.Errorf("what was handed in is %v", x)
	}
	if p, e := lift.Lift(x); e != api.OK || !reflect.DeepEqual(p, again) {
		t.Errorf("the next answer is %v %d", p, e)
	}
}

// No two lists of a plan share memory: where one is overwritten, spare room too, the others stay.
func TestListsApart(t *testing.T) {
	want, e := lift.Lift(ofAllKinds())
	if e != api.OK {
		t.Fatal(e)
	}
	p, _ := lift.Lift(ofAllKinds())
	for i := range p {
		if !reflect.DeepEqual(p[i], want[i]) {
			t.Fatalf("op %d was changed with one ahead: %v, want %v", i, p[i], want[i])
		}
		overwrite(api.Plan{p[i]})
	}
}

// P8.1: the plan may be, and no op of it has anything beside what its Kind has.
func TestPlan(t *testing.T) {
	x := ofAllKinds()
	p, e := lift.Lift(x)
	if e != api.OK {
		t.Fatal(e)
	}
	if _, e := run.Columns(p); e != api.OK {
		t.Fatalf("its columns: %d", e)
	}
	kinds := map[int]int{}
	for i, op := range p {
		kinds[op.Kind]++
		bare := api.Op{Kind: op.Kind, In: op.In}
		switch op.Kind {
		case api.Table:
			bare.Rel = op.Rel
		case api.Project:
			bare.Cols, bare.Olds = op.Cols, op.Olds
		case api.Select, api.Join, api.Except, api.Unique, api.Sort:
			bare.Cols = op.Cols
		case api.Rank:
			bare.New, bare.Cols, bare.Part = op.New, op.Cols, op.Part
		case api.Group:
			bare.New, bare.Part, bare.Name, bare.Cols = op.New, op.Part, op.Name, op.Cols
		case api.Apply:
			bare.New, bare.Name, bare.Cols = op.New, op.Name, op.Cols
		case api.Walk:
			bare.Axis, bare.Test.Kind = op.Axis, op.Test.Kind
			if op.Test.Kind == api.NameTest {
				bare.Test.Name = "a"
			}
		case api.Build:
			bare.N, bare.Name = op.N, map[int]string{api.Elem: "e", api.Attr: "k"}[op.N]
		}
		if !reflect.DeepEqual(op, bare) {
			t.Errorf("op %d: %v, want %v", i, op, bare)
		}
	}
	if len(kinds) != api.Sort {
		t.Errorf("ops by their kinds: %v", kinds)
	}
}

// P8.1: each expression is evaluated once for all iterations: how many there are is not seen in a plan.
func TestPlanOfLoops(t *testing.T) {
	sizes := map[int]int{}
	for many := 1; many < 20; many++ {
		p, e := lift.Lift(loop("x", "", call("to", n(1), n(many)), loop("y", "", call("to", n(1), v("x")), call("+", v("x"), v("y")))))
		if e != api.OK {
			t.Fatal(e)
		}
		sizes[len(p)]++
	}
	if len(sizes) != 1 {
		t.Errorf("plans by their sizes: %v", sizes)
	}
}

// joins: how many there are in the plan of an expression.
func joins(t *testing.T, x api.Expr) int {
	t.Helper()
	p, e := lift.Lift(x)
	if e != api.OK {
		t.Fatal(e)
	}
	many := 0
	for _, op := range p {
		if op.Kind == api.Join {
			many++
		}
	}
	return many
}

// P8.1: variables that are not used in a loop, or in a branch, do not go there: it would be work for nothing.
func TestUnusedStays(t *testing.T) {
	all := step(api.Descendant, api.AnyNode, "", root())
	for i, c := range []struct{ in, bare api.Expr }{
		{loop("y", "", all, v("y")), loop("y", "", all, v("y"))},
		{loop("y", "", v("x"), v("y")), loop("y", "", all, v("y"))},
		{loop("x", "", all, v("x")), loop("y", "", all, v("y"))},
		{loop("y", "x", all, v("x")), loop("y", "z", all, v("z"))},
		{sorted("y", "x", 0, all, v("x"), v("x")), sorted("y", "z", 0, all, v("z"), v("z"))},
		{loop("y", "", all, let("x", n(1), v("x"))), loop("y", "", all, let("z", n(1), v("z")))},
		{loop("y", "", all, loop("x", "", n(1), v("x"))), loop("y", "", all, loop("z", "", n(1), v("z")))},
		{cond(v("x"), n(1), n(2)), cond(all, n(1), n(2))},
		{cond(n(1), let("x", n(1), v("x")), n(2)), cond(n(1), let("z", n(1), v("z")), n(2))},
	} {
		if got, want := joins(t, let("x", all, c.in)), joins(t, c.bare); got != want {
			t.Errorf("case %d: %d joins, want %d", i, got, want)
		}
	}
}
