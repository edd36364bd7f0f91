package core_test

import (
	"slices"
	"strings"
	"testing"

	"pleacher/api"
	"pleacher/core"
	"pleacher/rel"
	"pleacher/xml"
)

// die: numbers that look drawn, the same in each run.
type die uint64

func (d *die) below(n int) int {
	*d = *d*6364136223846793005 + 1442695040888963407
	return int(uint64(*d>>33) % uint64(n))
}

func (d *die) one(l ...string) string { return l[d.below(len(l))] }

// slip: something wrong, now and then.
func (d *die) slip() bool { return d.below(60) == 0 }

func (d *die) name() string {
	if d.slip() {
		return d.one("", tooLong)
	}
	return d.one("x", "y", "z", ".", ".at", ".last", ".all")
}

// bound: a name that is in scope, if there is one, and no slip.
func (d *die) bound(names []string) string {
	if len(names) == 0 || d.slip() {
		return d.name()
	}
	return d.one(names...)
}

func (d *die) at() string {
	if d.below(2) == 0 {
		return ""
	}
	return d.name()
}

func (d *die) item() api.Item {
	if d.slip() {
		return []api.Item{{}, {Kind: api.IsNode}, number(most), text("\xff"), {Kind: api.IsBool, N: 2}}[d.below(5)]
	}
	return []api.Item{number(d.below(9)), text(d.one("", "a")), yes.Item, no.Item}[d.below(4)]
}

// upTo a number, from 1 on; now and then the one ahead of these, or behind.
func (d *die) upTo(n int) int {
	if d.slip() {
		return d.below(2) * (n + 1)
	}
	return 1 + d.below(n)
}

func (d *die) count(n int) int {
	if d.slip() {
		return d.below(4)
	}
	return n
}

func (d *die) nodeName() string {
	if d.slip() {
		return d.one("", "1", tooLong)
	}
	return "e"
}

// words of a text, one by one.
func words(s string) []string { return strings.Fields(s) }

// argsOfCore: how many Args the kinds of the core have; -1: any number.
var argsOfCore = map[int]int{api.Lit: 0, api.Var: 0, api.Seq: -1, api.Let: 2, api.For: 2, api.Sorted: 3, api.If: 3, api.Call: -1, api.Step: 1, api.Make: 1, api.Root: 0}

// expr: an expression of the core, most of which may be.
func (d *die) expr(deep int, names []string) api.Expr {
	x := api.Expr{Kind: d.upTo(11), Item: d.item(), Name: d.name(), At: d.at(), N: d.upTo(3), Axis: d.upTo(12), Test: api.Test{Kind: d.upTo(5)}}
	if deep == 0 {
		x.Kind = []int{api.Lit, api.Var, api.Root, api.Seq}[d.below(4)]
	}
	n := argsOfCore[x.Kind]
	switch x.Kind {
	case api.Var:
		x.Name = d.bound(names)
	case api.Make:
		x.Name = d.nodeName()
	case api.Seq:
		n = d.below(min(deep, 3) + 1)
	case api.Call:
		l := coreFunctions[d.below(3)]
		x.Name, n = d.one(words(l.names)...), l.args
		if d.slip() {
			x.Name = "f"
		}
	}
	for i := range d.count(n) {
		if i == 1 && (x.Kind == api.Let || x.Kind == api.For || x.Kind == api.Sorted) {
			names = append(slices.Clone(names), x.Name)
			if x.Kind != api.Let && x.At != "" {
				names = append(names, x.At)
			}
		}
		x.Args = append(x.Args, d.expr(max(deep-1, 0), names))
	}
	return x
}

// tally: what P6.1 counts.
type tally struct{ loops, makes, parts int }

// refusedOfExpr: what P6.1 says of an expression, but of sizes.
func (s *tally) refusedOfExpr(x api.Expr, names []string) api.Errno {
	n, there := argsOfCore[x.Kind]
	if !there {
		return api.ErrKind
	}
	if n >= 0 && n != len(x.Args) {
		return api.ErrCount
	}
	s.parts++
	inner := names
	switch x.Kind {
	case api.Lit:
		if rel.CheckItem(x.Item) != api.OK || x.Item.Kind == api.IsNode {
			return api.ErrValue
		}
	case api.Var:
		if !slices.Contains(names, x.Name) {
			return api.ErrNone
		}
	case api.For, api.Sorted:
		s.loops++
		if len(x.Name) < 1 || len(x.Name) > 20 || len(x.At) > 20 {
			return api.ErrName
		}
		if x.Name == x.At {
			return api.ErrTwice
		}
		inner = append(slices.Clone(names), x.Name)
		if x.At != "" {
			inner = append(inner, x.At)
		}
	case api.Let:
		if len(x.Name) < 1 || len(x.Name) > 20 {
			return api.ErrName
		}
		inner = append(slices.Clone(names), x.Name)
	case api.Call:
		if e := refusedOfCall(x); e != api.OK {
			return e
		}
	case api.Step:
		if x.Axis < 1 || x.Axis > 12 || x.Test.Kind < 1 || x.Test.Kind > 5 {
			return api.ErrKind
		}
	case api.Make:
		s.makes++
		if x.N < 1 || x.N > 3 {
			return api.ErrKind
		}
		if e := xml.CheckName(x.Name); e != api.OK && x.N != api.Text {
			return e
		}
	}
	for i, y := range x.Args {
		if i > 0 {
			names = inner
		}
		if e := s.refusedOfExpr(y, names); e != api.OK {
			return e
		}
	}
	return api.OK
}

func refusedOfCall(x api.Expr) api.Errno {
	for _, l := range coreFunctions {
		if slices.Contains(words(l.names), x.Name) {
			if len(x.Args) != l.args {
				return api.ErrCount
			}
			return api.OK
		}
	}
	return api.ErrNone
}

func refusedOf(x api.Expr) api.Errno {
	var s tally
	e := s.refusedOfExpr(x, nil)
	if e == api.OK && (s.loops > 6 || s.makes > 6 || s.parts > 700) {
		return api.ErrSize
	}
	return e
}

// told: each of these errors, and OK, must have been told often enough for the test to mean something.
func told(t *testing.T, seen map[api.Errno]int, l ...api.Errno) {
	t.Helper()
	for _, e := range l {
		if seen[e] < 20 {
			t.Errorf("%d was told %d times", e, seen[e])
		}
	}
}

// P6.1, on drawn expressions.
func TestDrawnChecks(t *testing.T) {
	seen := map[api.Errno]int{}
	d := die(61)
	for range 60000 {
		x := d.expr(d.below(7), nil)
		want := refusedOf(x)
		seen[want]++
		if e := core.Check(x); e != want {
			t.Fatalf("Check(%v): %d, want %d", x, e, want)
		}
	}
	told(t, seen, api.OK, api.ErrKind, api.ErrCount, api.ErrValue, api.ErrNone, api.ErrName, api.ErrTwice, api.ErrSize)
}
