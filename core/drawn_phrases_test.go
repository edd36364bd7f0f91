package core_test

import (
	"slices"
	"testing"

	"pleacher/api"
	"pleacher/core"
	"pleacher/rel"
	"pleacher/xml"
)

var (
	phraseKinds = []int{api.Lit, api.Var, api.Seq, api.If, api.Call, api.Step, api.Make, api.Root, api.Path, api.Filter, api.Some, api.Every,
		api.Binary, api.Minus, api.Dot, api.Flwor}
	partsOf = map[int]int{api.If: 3, api.Make: 1, api.Path: 2, api.Some: 2, api.Every: 2, api.Binary: 2, api.Minus: 1, api.Flwor: 1}
	ofItems = []string{".all", ".last", ".", ".at"} // the names that are in scope in a predicate
	binary  = words("or and = != < <= > >= is << >> to + - * div mod | union intersect except")
)

func with(names []string, more ...string) []string {
	names = slices.Clone(names)
	for _, name := range more {
		if name != "" {
			names = append(names, name)
		}
	}
	return names
}

// scopes: the names that are in scope in each part of a phrase.
func scopes(p api.Phrase, names []string) func(i int) []string {
	return func(i int) []string {
		switch {
		case p.Kind == api.Flwor:
			return behind(p.Clauses, names)
		case i == 0:
			return names
		case p.Kind == api.Path:
			return with(names, ".")
		case p.Kind == api.Filter:
			return with(names, ofItems...)
		case p.Kind == api.Some || p.Kind == api.Every:
			return with(names, p.Name)
		}
		return names
	}
}

// behind clauses: the names that are in scope there.
func behind(l []api.Clause, names []string) []string {
	for _, c := range l {
		if c.Kind == api.ForIn {
			names = with(names, c.Name, c.At)
		} else if c.Kind == api.LetBe {
			names = with(names, c.Name)
		}
	}
	return names
}

// phrase, most of which may be.
func (d *die) phrase(deep int, names []string) api.Phrase {
	p := api.Phrase{Kind: phraseKinds[d.below(len(phraseKinds))], Item: d.item(), Name: d.name(), N: d.upTo(3), Axis: d.upTo(12), Test: api.Test{Kind: d.upTo(5), Name: d.one("", "a")}}
	if deep == 0 {
		p.Kind = []int{api.Lit, api.Var, api.Root, api.Dot, api.Step, api.Seq}[d.below(6)]
	}
	if !slices.Contains(names, ".") && (p.Kind == api.Dot || p.Kind == api.Step) && !d.slip() {
		p.Kind = api.Root
	}
	n := partsOf[p.Kind]
	switch p.Kind {
	case api.Var:
		if p.Name = d.bound(names); len(names) == 0 && !d.slip() {
			p.Kind = api.Lit
		}
	case api.Make:
		p.Name = d.nodeName()
	case api.Seq:
		n = d.below(min(deep, 3) + 1)
	case api.Filter:
		n = 1 + d.below(3)
	case api.Binary:
		p.Name = d.one(binary...)
	case api.Call:
		p.Name, n = d.callOf(names)
	case api.Flwor:
		p.Clauses = d.clauses(deep-1, names)
	}
	if d.slip() {
		p.Kind, p.Name = []int{0, api.Let, api.For, api.Sorted, p.Kind}[d.below(5)], d.one("f", "x")
	}
	scope := scopes(p, names)
	for i := range d.count(n) {
		p.Args = append(p.Args, d.phrase(max(deep-1, 0), scope(i)))
	}
	return p
}

// callOf: a name, and a number of arguments.
func (d *die) callOf(names []string) (string, int) {
	if d.below(3) > 0 || !slices.Contains(names, ".at") {
		l := []string{"true", "false"}
		for name := range calls {
			l = append(l, name)
		}
		slices.Sort(l)
		name := d.one(l...)
		return name, calls[name].args
	}
	return d.one("position", "last", "count", "ddo"), d.below(40) / 39
}

func (d *die) clauses(deep int, names []string) []api.Clause {
	var l []api.Clause
	put := func(kind int) {
		c := api.Clause{Kind: kind, Name: d.name(), At: d.at(), Down: d.below(2) == 0, Expr: d.phrase(max(deep, 0), behind(l, names))}
		if d.slip() {
			c.Kind = d.below(6)
		}
		l = append(l, c)
	}
	for range d.below(3) {
		put(api.LetBe)
	}
	if d.below(4) > 0 {
		put(api.ForIn)
	}
	for range d.below(3) {
		put([]int{api.LetBe, api.LetBe, api.ForIn}[d.below(3)])
	}
	if d.below(3) == 0 {
		put(api.Where)
	}
	if d.below(3) == 0 {
		put(api.OrderBy)
	}
	return l
}

// refusedOfPhrase: what P6.3 to P6.5 say of a phrase, but of sizes.
func refusedOfPhrase(p api.Phrase, names []string) api.Errno {
	if !slices.Contains(phraseKinds, p.Kind) {
		return api.ErrKind
	}
	n, fixed := len(p.Args), !slices.Contains([]int{api.Seq, api.Call, api.Filter}, p.Kind)
	if fixed && n != partsOf[p.Kind] || p.Kind == api.Filter && n == 0 {
		return api.ErrCount
	}
	if e := refusedAlone(p, names); e != api.OK {
		return e
	}
	for i, c := range p.Clauses {
		if e := refusedOfPhrase(c.Expr, behind(p.Clauses[:i], names)); e != api.OK && p.Kind == api.Flwor {
			return e
		}
	}
	scope := scopes(p, names)
	for i, y := range p.Args {
		if e := refusedOfPhrase(y, scope(i)); e != api.OK {
			return e
		}
	}
	return api.OK
}

func refusedAlone(p api.Phrase, names []string) api.Errno {
	has := func(name string) api.Errno {
		if slices.Contains(names, name) {
			return api.OK
		}
		return api.ErrNone
	}
	switch p.Kind {
	case api.Lit:
		if p.Item.Kind == api.IsNode {
			return api.ErrValue
		}
		return rel.CheckItem(p.Item)
	case api.Var:
		return has(p.Name)
	case api.Dot:
		return has(".")
	case api.Step:
		if p.Axis < 1 || p.Axis > 12 || p.Test.Kind < 1 || p.Test.Kind > 5 {
			return api.ErrKind
		}
		return has(".")
	case api.Make:
		if p.N < 1 || p.N > 3 {
			return api.ErrKind
		}
		if p.N != api.Text {
			return xml.CheckName(p.Name)
		}
	case api.Binary:
		if !slices.Contains(binary, p.Name) {
			return api.ErrNone
		}
	case api.Call:
		return refusedOfQueryCall(p, has)
	case api.Some, api.Every:
		return refusedName(p.Name)
	case api.Flwor:
		return refusedOfClauses(p.Clauses)
	}
	return api.OK
}

func refusedName(name string) api.Errno {
	if len(name) < 1 || len(name) > 20 {
		return api.ErrName
	}
	return api.OK
}

func refusedOfQueryCall(p api.Phrase, has func(name string) api.Errno) api.Errno {
	f, there := calls[p.Name]
	inner := map[string]string{"true": "", "false": "", "position": ".at", "last": ".last"}
	if name, ok := inner[p.Name]; ok {
		if len(p.Args) > 0 {
			return api.ErrCount
		}
		if name == "" {
			return api.OK
		}
		return has(name)
	}
	if !there {
		return api.ErrNone
	}
	if f.args != len(p.Args) {
		return api.ErrCount
	}
	return api.OK
}

func refusedOfClauses(l []api.Clause) api.Errno {
	for i, c := range l {
		end := i == len(l)-1
		loops := 0
		for _, ahead := range l[:i] {
			if ahead.Kind == api.ForIn {
				loops++
			}
		}
		switch {
		case c.Kind < 1 || c.Kind > 4:
			return api.ErrKind
		case c.Kind == api.Where && !end && l[i+1].Kind != api.OrderBy, c.Kind == api.OrderBy && (!end || loops != 1):
			return api.ErrForm
		case c.Kind > api.LetBe:
			continue
		case refusedName(c.Name) != api.OK || c.Kind == api.ForIn && len(c.At) > 20:
			return api.ErrName
		case c.Kind == api.ForIn && c.Name == c.At:
			return api.ErrTwice
		}
	}
	return api.OK
}

// meaning of a phrase in which nothing is wrong, as P6.3 to P6.5 say.
func meaning(p api.Phrase) api.Expr {
	var l []api.Expr
	for _, y := range p.Args {
		if p.Kind != api.Path || y.Kind != api.Step {
			l = append(l, meaning(y))
		} else {
			l = append(l, step(y.Axis, y.Test, dot))
		}
	}
	switch p.Kind {
	case api.Lit:
		return lit(p.Item)
	case api.Var:
		return ref(p.Name)
	case api.Dot:
		return dot
	case api.Seq:
		return seq(l...)
	case api.If:
		return when(call("boolean", l[0]), l[1], l[2])
	case api.Minus:
		return call("neg", l[0])
	case api.Binary:
		if p.Name == "|" {
			return call("union", l...)
		}
		return call(p.Name, l...)
	case api.Make:
		if p.N == api.Text {
			return node(p.N, "", l[0])
		}
		return node(p.N, p.Name, l[0])
	case api.Call:
		if x, there := map[string]api.Expr{"true": yes, "false": no, "position": ref(".at"), "last": ref(".last")}[p.Name]; there {
			return x
		}
		return call(calls[p.Name].name, l...)
	case api.Step:
		return step(p.Axis, p.Test, dot)
	}
	return meaningOfLoop(p, l)
}

func meaningOfLoop(p api.Phrase, l []api.Expr) api.Expr {
	switch p.Kind {
	case api.Path:
		if s := p.Args[1]; s.Kind == api.Step {
			return step(s.Axis, s.Test, l[0])
		}
		return call("ddo", loop(".", "", l[0], l[1]))
	case api.Filter:
		x := l[0]
		for _, predicate := range l[1:] {
			x = kept(x, predicate)
		}
		return x
	case api.Some:
		return call("exists", loop(p.Name, "", l[0], when(call("boolean", l[1]), yes, seq())))
	case api.Every:
		return call("empty", loop(p.Name, "", l[0], when(call("boolean", l[1]), seq(), yes)))
	case api.Flwor:
		return meaningOfClauses(p.Clauses, l[0])
	}
	return document
}

func meaningOfClauses(l []api.Clause, x api.Expr) api.Expr {
	if len(l) == 0 {
		return x
	}
	c, rest, end := l[0], l[1:], l[len(l)-1]
	value := meaning(c.Expr)
	switch c.Kind {
	case api.LetBe:
		return let(c.Name, value, meaningOfClauses(rest, x))
	case api.Where:
		return when(call("boolean", value), meaningOfClauses(rest, x), seq())
	case api.OrderBy:
		return x
	}
	if end.Kind != api.OrderBy {
		return loop(c.Name, c.At, value, meaningOfClauses(rest, x))
	}
	var lets []api.Clause
	for _, r := range rest {
		if r.Kind == api.LetBe {
			lets = append(lets, r)
		}
	}
	down := 0
	if end.Down {
		down = 1
	}
	return sorted(c.Name, c.At, down, value, meaningOfClauses(lets, meaning(end.Expr)), meaningOfClauses(rest, x))
}

// P6.3 to P6.6, on drawn phrases.
func TestDrawnPhrases(t *testing.T) {
	seen, kinds := map[api.Errno]int{}, map[int]int{}
	d := die(63)
	for range 60000 {
		p := d.phrase(d.below(7), nil)
		want, x := refusedOfPhrase(p, nil), api.Expr{}
		if want == api.OK {
			x = meaning(p)
			kinds[x.Kind]++
			if want = refusedOf(x); want != api.OK {
				x = api.Expr{}
			}
		}
		seen[want]++
		if got, e := core.Lower(p); !same(got, x) || e != want {
			t.Fatalf("Lower(%v): %v %d, want %v %d", p, got, e, x, want)
		}
	}
	told(t, seen, api.OK, api.ErrKind, api.ErrCount, api.ErrValue, api.ErrNone, api.ErrName, api.ErrTwice, api.ErrForm, api.ErrSize)
	for kind := api.Lit; kind <= api.Root; kind++ {
		if kinds[kind] < 20 && kind != api.Var {
			t.Errorf("the kind %d came %d times", kind, kinds[kind])
		}
	}
}
