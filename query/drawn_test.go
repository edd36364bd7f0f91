package query_test

import (
	"slices"
	"strconv"
	"strings"
	"testing"

	"pleacher/api"
	"pleacher/query"
	"pleacher/run"
	"pleacher/store"
	"pleacher/xml"
)

// die: numbers that look drawn, the same in each run.
type die uint64

func (d *die) below(n int) int {
	*d = *d*6364136223846793005 + 1442695040888963407
	return int(uint64(*d>>33) % uint64(n))
}

func (d *die) one(l ...string) string { return l[d.below(len(l))] }

func (d *die) value() string {
	s := ""
	for range d.below(3) {
		s += d.one("1", "2", "a", "&amp;", "&lt;", ">", "&quot;", "é", " ")
	}
	return s
}

// element of a document, with elements of at most deep levels.
func (d *die) element(deep int) string {
	name := d.one("a", "b", "r")
	s := "<" + name
	for _, k := range []string{"k", "l"} {
		if d.below(3) == 0 {
			s += " " + k + `="` + d.value() + `"`
		}
	}
	s += ">"
	for range d.below(4) {
		switch {
		case d.below(4) == 0:
			s += "<!--" + d.one("c", "<", "&", "") + "-->"
		case d.below(3) == 0:
			s += d.value() + "<b/>"
		case deep > 1:
			s += d.element(deep - 1)
		}
	}
	return s + d.value() + "</" + name + ">"
}

// What a query is drawn for: items of any kind, nodes; or one item at most: a number, a text, a truth.
const (
	wantAny = iota
	wantNodes
	wantNumber
	wantText
	wantTruth
	wants
)

// drawing of a query: the variables in scope, by what they are drawn for, whether there is a ".", and whether it has a place.
type drawing struct {
	*die
	vars   [wants][]string
	dot    bool
	placed bool
	makes  bool // may there be constructors?
	next   int  // number of the next variable
}

// operand: a query that may stand wherever one may.
func (d *drawing) operand(deep, want int) string { return "(" + d.expr(deep, want) + ")" }

func (d *drawing) expr(deep, want int) string {
	if d.below(40) == 0 { // something else than is wanted
		want = d.below(wants)
	}
	if deep <= 0 {
		return d.leaf(want)
	}
	switch d.below(10) {
	case 0:
		return d.clauses(deep, want)
	case 1:
		return "if " + d.operand(deep-1, d.condition()) + " then " + d.operand(deep-1, want) + " else " + d.operand(deep-1, want)
	case 2:
		return d.leaf(want)
	}
	switch want {
	case wantNodes:
		return d.nodes(deep)
	case wantNumber:
		return d.number(deep)
	case wantText:
		return d.text(deep)
	case wantTruth:
		return d.truth(deep)
	}
	return d.any(deep)
}

func (d *drawing) condition() int {
	return []int{wantTruth, wantTruth, wantNodes, wantNumber, wantText}[d.below(5)]
}

func (d *drawing) leaf(want int) string {
	if l := d.vars[want]; len(l) > 0 && d.below(3) > 0 {
		return "$" + d.one(l...)
	}
	switch want {
	case wantNodes:
		return d.start()
	case wantNumber:
		if d.placed && d.below(2) == 0 {
			return d.one("position()", "last()", "last() - 1")
		}
		return d.one("0", "1", "2", "3", "-1", "1099511627776", "()")
	case wantText:
		return d.one(`""`, `"a"`, `"1"`, `"é<"`, `"2"`, "()")
	case wantTruth:
		return d.one("true()", "false()")
	}
	return d.leaf(1 + d.below(wants-1))
}

// start of a path.
func (d *drawing) start() string {
	if d.dot && d.below(2) == 0 {
		return d.one(".", "@k", "..", "a", "*", "text()", "ancestor::*", "following-sibling::node()", "self::a", ".//b", "preceding::node()")
	}
	return d.one("/", "/r", "//a", "//b", "//*", "//@*", "//@k", "/*/*", "//text()", "//comment()", "//node()", "/descendant::*", "//a/..")
}

func (d *drawing) nodes(deep int) string {
	switch d.below(6) {
	case 0:
		return d.operand(deep-1, wantNodes) + d.one("/", "//") + d.one("a", "*", "@k", "..", "text()", "ancestor-or-self::*", "following::*", "preceding-sibling::node()", "descendant-or-self::a")
	case 1, 2:
		return d.operand(deep-1, wantNodes) + "[" + d.within(deep-1, d.condition(), true) + "]"
	case 3:
		return d.operand(deep-1, wantNodes) + "/(" + d.within(deep-1, wantNodes, d.placed) + ")"
	case 4:
		return "//" + d.one("a", "*", "@k", "node()") + "[" + d.within(deep-1, d.condition(), true) + "]"
	}
	return d.operand(deep-1, wantNodes) + " " + d.one("|", "union", "intersect", "except") + " " + d.operand(deep-1, wantNodes)
}

// within a path or a predicate: there is a ".".
func (d *drawing) within(deep, want int, placed bool) string {
	was := *d
	d.dot, d.placed = true, placed
	s := d.expr(deep, want)
	was.next = d.next
	*d = was
	return s
}

// clauses of a for or a let.
func (d *drawing) clauses(deep, want int) string {
	was := *d
	s := ""
	loops := 0
	for range 1 + d.below(2) {
		kind := d.below(wants)
		if d.below(2) == 0 {
			s += "let $" + d.bind(func() string { return " := " + d.operand(deep-1, kind) }, kind) + " "
			continue
		}
		loops++
		at := ""
		s += "for $" + d.bind(func() string {
			if d.below(2) == 0 {
				at = d.fresh()
			}
			if at != "" {
				return " at $" + at + " in " + d.operand(deep-1, kind)
			}
			return " in " + d.operand(deep-1, kind)
		}, kind) + " "
		if at != "" {
			d.vars[wantNumber] = append(slices.Clone(d.vars[wantNumber]), at)
		}
	}
	if d.below(3) == 0 {
		s += "where " + d.operand(deep-1, d.condition()) + " "
	}
	if loops == 1 && d.below(2) == 0 {
		s += "order by " + d.operand(deep-1, wantNumber+d.below(3)) + d.one(" ", " descending ")
	}
	s += "return " + d.operand(deep-1, want)
	was.next = d.next
	*d = was
	return s
}

func (d *drawing) fresh() string {
	d.next++
	return "v" + strconv.Itoa(d.next)
}

// bind a new variable; what it is given is drawn ahead of its being in scope.
func (d *drawing) bind(given func() string, kind int) string {
	name := d.fresh()
	s := given()
	d.vars[kind] = append(slices.Clone(d.vars[kind]), name)
	return name + s
}

func (d *drawing) any(deep int) string {
	if d.makes && d.below(4) == 0 {
		return d.one("element e", "element e", "attribute k", "text") + " { " + d.expr(deep-1, wantAny) + " }"
	}
	switch d.below(4) {
	case 0:
		return d.operand(deep-1, wantAny) + ", " + d.operand(deep-1, wantAny)
	case 1:
		return d.one("reverse", "data", "distinct-values") + "(" + d.operand(deep-1, wantAny) + ")"
	case 2:
		return d.operand(deep-1, wantNumber) + " to " + d.operand(deep-1, wantNumber)
	}
	return d.operand(deep-1, wantAny) + "[" + d.within(deep-1, d.condition(), true) + "]"
}

func (d *drawing) number(deep int) string {
	switch d.below(5) {
	case 0:
		return "count(" + d.operand(deep-1, wantAny) + ")"
	case 1:
		return d.one("sum", "min", "max") + "((" + d.expr(deep-1, wantNumber) + ", " + d.operand(deep-1, wantNumber) + "))"
	case 2:
		return d.one("integer", "-", "- -") + d.operand(deep-1, wantNumber)
	case 3:
		return "string-length(" + d.operand(deep-1, wantText) + ")"
	}
	return d.operand(deep-1, wantNumber) + " " + d.one("+", "-", "*", "div", "mod") + " " + d.operand(deep-1, wantNumber)
}

func (d *drawing) text(deep int) string {
	switch d.below(4) {
	case 0:
		return "concat(" + d.operand(deep-1, wantText) + ", " + d.operand(deep-1, wantText) + ")"
	case 1:
		return "substring(" + d.operand(deep-1, wantText) + ", " + d.operand(deep-1, wantNumber) + ", " + d.operand(deep-1, wantNumber) + ")"
	case 2:
		return "name(" + d.operand(deep-1, wantNodes) + "[1])"
	}
	return "string(" + d.operand(deep-1, wantNumber+d.below(3)) + ")"
}

func (d *drawing) truth(deep int) string {
	switch d.below(7) {
	case 0:
		return d.one("empty", "exists") + "(" + d.operand(deep-1, wantAny) + ")"
	case 1:
		return d.one("not", "boolean") + "(" + d.operand(deep-1, d.condition()) + ")"
	case 2:
		return d.operand(deep-1, d.condition()) + d.one(" and ", " or ") + d.operand(deep-1, d.condition())
	case 3:
		return d.one("contains", "starts-with") + "(" + d.operand(deep-1, wantText) + ", " + d.operand(deep-1, wantText) + ")"
	case 4:
		return d.operand(deep-1, wantNodes) + "[1] " + d.one("is", "<<", ">>") + " " + d.operand(deep-1, wantNodes) + "[last()]"
	case 5:
		was := *d
		s := d.one("some", "every") + " $" + d.bind(func() string { return " in " + d.operand(deep-1, wantNodes) }, wantNodes)
		s += " satisfies " + d.operand(deep-1, d.condition())
		was.next = d.next
		*d = was
		return s
	}
	return d.operand(deep-1, wantAny) + " " + d.one("=", "!=", "<", "<=", ">", ">=") + " " + d.operand(deep-1, wantAny)
}

// shownAll: items, each in a line; nodes as Show tells them.
func shownAll(t *testing.T, l []api.Node, items list) string {
	t.Helper()
	var b strings.Builder
	for _, x := range items {
		s, e := query.Show(l, x)
		if e != api.OK {
			t.Fatalf("Show(%v, %v): %d", l, x, e)
		}
		b.WriteString(s + "\n")
	}
	return b.String()
}

// P10.3: what a drawn query tells is what it means.
func TestDrawn(t *testing.T) {
	seed := die(10)
	refused, outcomes := map[api.Errno]int{}, map[api.Errno]int{}
	told, lines := 0, 0
	for range 4000 {
		doc := seed.element(3)
		d := drawing{die: &seed}
		q := d.expr(1+d.below(5), d.below(wants))
		got, e := query.Run(doc, q)
		if _, f := query.Plan(q); f != api.OK {
			if got != "" || e != f {
				t.Fatalf("%s: %q %d, want %d", q, got, e, f)
			}
			refused[f]++
			continue
		}
		outcomes[e]++
		if e == api.ErrSize { // too much work: there are few of these
			continue
		}
		l := shred(t, doc)
		items, want := meant(t, q, l)
		if s := shownAll(t, l, items); got != s || e != want {
			t.Fatalf("%s over %s: %q %d, want %q %d", q, doc, got, e, s, want)
		}
		if len(items) > 0 {
			told++
		}
		lines += len(items)
	}
	if outcomes[api.OK] < 2500 || outcomes[api.ErrValue] < 200 || outcomes[api.ErrSize] > 10 || told < 2000 || lines < 3000 {
		t.Errorf("refused %v, outcomes %v; %d tell some items, %d in all", refused, outcomes, told, lines)
	}
}

// P10.3: nodes that are made are shown, too, as they stand in what the plan tells, trimmed or not.
func TestDrawnMakes(t *testing.T) {
	seed := die(11)
	made, refused := 0, 0
	for range 2000 {
		doc := seed.element(3)
		d := drawing{die: &seed, makes: true}
		q := d.expr(2+d.below(4), wantAny)
		p, e := lifted(q)
		if e != api.OK {
			continue
		}
		l := shred(t, doc)
		r, after, want := run.Eval(p, l)
		got, e := query.Run(doc, q)
		if e != want && want != api.ErrSize {
			t.Fatalf("%s over %s: %d, want %d", q, doc, e, want)
		}
		if want != api.OK {
			refused++
			continue
		}
		if s := shownAll(t, after, byPos(r)); got != s {
			t.Fatalf("%s over %s: %q, want %q", q, doc, got, s)
		}
		if len(after) > len(l) && strings.ContainsAny(got, "<=") {
			made++
		}
	}
	if made < 200 || refused < 100 {
		t.Errorf("%d made nodes, %d were refused", made, refused)
	}
}

// P10.3: whatever texts there are, the first layer that refuses one tells the error; no call panics.
func TestAnyTexts(t *testing.T) {
	d := die(13)
	outcomes := map[api.Errno]int{}
	for range 20000 {
		doc, q := "<r>", ""
		for range d.below(3) {
			doc += d.one("<a>", "</a>", "<b/>", `<a k="1">`, "x", "&", "<", "\xff", "<!--", "-->", "</r>")
		}
		doc += d.one("</r>", "</r>", "</a></r>")
		for range 1 + d.below(5) {
			q += d.one("//", "a", "/", "(", ")", "1", " ", "[", "]", "$x", "for $x in ", " return ", "count(", ", ", " + ", "@k", "\"", "..", "*", "element e {", "}", "\xff", "text()", " div 0")
		}
		_, ofDoc := xml.Parse(doc)
		_, ofQuery := query.Plan(q)
		got, e := query.Run(doc, q)
		switch {
		case e != api.OK && got != "", ofDoc != api.OK && e != ofDoc, ofDoc == api.OK && ofQuery != api.OK && e != ofQuery:
			t.Fatalf("%q over %q: %q %d, want %d or %d", q, doc, got, e, ofDoc, ofQuery)
		case ofDoc == api.OK && ofQuery == api.OK && e != api.OK && e != api.ErrValue:
			t.Fatalf("%q over %q: %d", q, doc, e)
		}
		outcomes[e]++
	}
	if outcomes[api.OK] < 150 || outcomes[api.ErrValue] < 5 || outcomes[api.ErrNone] < 300 || outcomes[api.ErrForm] < 3000 || outcomes[api.ErrShort] < 1000 {
		t.Errorf("outcomes %v", outcomes)
	}
}

// byPos: the items of a relation, sorted by pos.
func byPos(r api.Rel) list {
	pos, item := slices.Index(r.Cols, "pos"), slices.Index(r.Cols, "item")
	rows := slices.Clone(r.Rows)
	slices.SortFunc(rows, func(a, b []api.Item) int { return a[pos].N - b[pos].N })
	var items list
	for _, row := range rows {
		items = append(items, row[item])
	}
	return items
}

// P10.1: an element is shown as xml's Show writes a document of it, and is parsed as it was.
func TestDrawnElements(t *testing.T) {
	d := die(12)
	shown := 0
	for range 300 {
		l := shred(t, d.element(4))
		for n, x := range l {
			if x.Kind != api.Elem && x.Kind != api.Doc {
				continue
			}
			events, _ := store.Events(l, n)
			want, e := xml.Show(events)
			if e != api.OK {
				t.Fatalf("%v: %d", events, e)
			}
			show(t, l, node(n), want)
			if again, e := xml.Parse(want); !slices.Equal(again, events) || e != api.OK {
				t.Fatalf("%s: %v %d, want %v", want, again, e, events)
			}
			shown++
		}
	}
	if shown < 1000 {
		t.Errorf("only %d nodes were shown", shown)
	}
}
