package read_test

import (
	"slices"
	"testing"

	"pleacher/api"
	"pleacher/read"
)

// die: numbers that look drawn, the same in each run.
type die uint64

func (d *die) below(n int) int {
	*d = *d*6364136223846793005 + 1442695040888963407
	return int(uint64(*d>>33) % uint64(n))
}

func (d *die) one(l ...string) string { return l[d.below(len(l))] }

// writer: draws phrases, and writes the tokens that P5.5 to P5.10 say of them.
type writer struct {
	die
	l     []api.Token
	fuel  int // how many more tokens may come, roughly
	open  int
	deep  int // the place where the first level that is too deep begins; -1: there is none
	root  int // the place behind a / that is to be alone
	wrong bool
}

func (w *writer) put(l ...api.Token) {
	for _, t := range l {
		if t.Kind != api.Mark || slices.Contains([]string{"..", ".", "@", "*", "("}, t.S) {
			w.wrong = w.wrong || w.root == len(w.l)
		}
		w.l = append(w.l, t)
		w.fuel--
	}
}

func (w *writer) level(inner func() api.Phrase) api.Phrase {
	w.open++
	if w.open > api.MaxNest && w.deep < 0 {
		w.deep = len(w.l)
	}
	x := inner()
	w.open--
	return x
}

// more: shall there be one more? The less fuel is left the less so.
func (w *writer) more() bool { return w.fuel > 0 && w.below(3) == 0 }

func (w *writer) list() api.Phrase {
	return w.level(func() api.Phrase {
		l := w.singles()
		if len(l) == 1 {
			return l[0]
		}
		return seq(l...)
	})
}

func (w *writer) singles() []api.Phrase {
	l := []api.Phrase{w.single()}
	for w.more() {
		w.put(mark(","))
		l = append(l, w.single())
	}
	return l
}

func (w *writer) name() string {
	return w.one("a", "b-1", "_", "for", "let", "some", "if", "or", "to", "element", "text", "node", "child", "in", "return", "order", "descending")
}

func (w *writer) variable() string {
	s := w.name()
	w.put(dollar(s))
	return s
}

func (w *writer) single() api.Phrase {
	return w.level(func() api.Phrase {
		if w.fuel <= 0 {
			return w.operand(0)
		}
		switch w.below(8) {
		case 0:
			return w.flwor()
		case 1:
			return w.quantified()
		case 2:
			w.put(word("if"), mark("("))
			x := w.list()
			w.put(mark(")"), word("then"))
			y := w.single()
			w.put(word("else"))
			return conditional(x, y, w.single())
		}
		return w.operand(0)
	})
}

func (w *writer) flwor() api.Phrase {
	l := []api.Clause{w.clause()}
	for w.more() {
		l = append(l, w.clause())
	}
	if w.more() {
		w.put(word("where"))
		l = append(l, where(w.single()))
	}
	if w.more() {
		w.put(word("order"), word("by"))
		x, down := w.single(), w.more()
		if down {
			w.put(word("descending"))
		}
		l = append(l, orderBy(x, down))
	}
	w.put(word("return"))
	return flwor(w.single(), l...)
}

func (w *writer) clause() api.Clause {
	if w.below(2) == 0 {
		w.put(word("let"))
		name := w.variable()
		w.put(mark(":="))
		return letBe(name, w.single())
	}
	w.put(word("for"))
	name, at := w.variable(), ""
	if w.more() {
		w.put(word("at"))
		at = w.variable()
	}
	w.put(word("in"))
	return forIn(name, at, w.single())
}

func (w *writer) quantified() api.Phrase {
	kind := api.Some + w.below(2)
	w.put(word([]string{"some", "every"}[kind-api.Some]))
	name := w.variable()
	w.put(word("in"))
	x := w.single()
	w.put(word("satisfies"))
	return quantified(kind, name, x, w.single())
}

func (w *writer) operand(level int) api.Phrase {
	if level == len(levelsOfOperators) {
		return w.minus()
	}
	x := w.operand(level + 1)
	for w.fuel > 0 && w.below(12) == 0 {
		o := w.one(levelsOfOperators[level]...)
		if 'a' <= o[0] && o[0] <= 'z' {
			w.put(word(o))
		} else {
			w.put(mark(o))
		}
		x = binary(o, x, w.operand(level+1))
		if level == 2 || level == 3 {
			break
		}
	}
	return x
}

func (w *writer) minus() api.Phrase {
	if !w.more() {
		return w.path()
	}
	return w.level(func() api.Phrase {
		w.put(mark("-"))
		return minus(w.minus())
	})
}

func (w *writer) path() api.Phrase {
	var x api.Phrase
	switch w.below(8) {
	case 0:
		w.put(mark("/"))
		w.root = len(w.l)
		return root
	case 1:
		w.put(mark("/"))
		x = path(root, w.step())
	case 2:
		w.put(mark("//"))
		x = path(root, below, w.step())
	default:
		x = w.step()
	}
	for w.more() {
		if w.below(2) == 0 {
			w.put(mark("/"))
		} else {
			w.put(mark("//"))
			x = path(x, below)
		}
		x = path(x, w.step())
	}
	return x
}

func (w *writer) step() api.Phrase {
	return w.level(func() api.Phrase {
		x := w.bareStep()
		if !w.more() {
			return x
		}
		l := []api.Phrase{x}
		for w.more() || len(l) == 1 {
			w.put(mark("["))
			l = append(l, w.list())
			w.put(mark("]"))
		}
		return filter(l...)
	})
}

func (w *writer) bareStep() api.Phrase {
	switch w.below(6) {
	case 0:
		axis := 1 + w.below(len(axisNames))
		w.put(word(axisNames[axis-1]), mark("::"))
		return along(axis, w.test())
	case 1:
		w.put(mark("@"))
		return along(api.Attribute, w.test())
	case 2:
		return along(api.Child, w.test())
	case 3:
		return w.leaf()
	}
	return w.whole()
}

func (w *writer) test() api.Test {
	switch w.below(4) {
	case 0:
		w.put(mark("*"))
		return named
	case 1:
		kind := 1 + w.below(3)
		w.put(word([]string{"node", "text", "comment"}[kind-1]), mark("("), mark(")"))
		return api.Test{Kind: kind}
	}
	name := w.name()
	w.put(word(name))
	return nameTest(name)
}

func (w *writer) leaf() api.Phrase {
	switch w.below(5) {
	case 0:
		n := w.below(1000)
		w.put(number(n))
		return lit(n)
	case 1:
		s := w.one("", "a b", "for", "é")
		w.put(quoted(s))
		return text(s)
	case 2:
		return variable(w.variable())
	case 3:
		w.put(mark("."))
		return dot
	}
	w.put(mark(".."))
	return along(api.Parent, anyNode)
}

// whole: what has a beginning and an end of its own.
func (w *writer) whole() api.Phrase {
	if w.fuel <= 0 {
		return w.leaf()
	}
	switch w.below(4) {
	case 0:
		w.put(mark("("))
		return w.listUpTo(mark(")"))
	case 1:
		name := w.name()
		w.put(word("element"), word(name), mark("{"))
		return construct(api.Elem, name, w.listUpTo(mark("}")))
	case 2:
		w.put(word("text"), mark("{"))
		return construct(api.Text, "", w.listUpTo(mark("}")))
	}
	name := w.one("f", "count", "or", "element", "comments")
	w.put(word(name), mark("("))
	var l []api.Phrase
	if w.below(4) > 0 {
		l = w.singles()
	}
	w.put(mark(")"))
	return call(name, l...)
}

func (w *writer) listUpTo(end api.Token) api.Phrase {
	x := seq()
	if w.below(4) > 0 {
		x = w.list()
	}
	w.put(end)
	return x
}

// drawn: a phrase, and its tokens. A / that is to be alone, and is not, makes it another one: that is drawn anew.
func drawn(d *die) (api.Phrase, *writer) {
	for {
		w := &writer{die: *d, fuel: d.below(150), deep: -1, root: -1}
		x := w.list()
		*d = w.die
		if !w.wrong {
			return x, w
		}
	}
}

// P5.5 to P5.10: what was written is parsed as it was; what is too deep is told where it begins.
func TestWrittenIsParsed(t *testing.T) {
	d := die(1)
	fine, tooDeep, tooMany := 0, 0, 0
	for range 15000 {
		x, w := drawn(&d)
		switch {
		case len(w.l) > api.MaxTokens:
			tooMany++
			refuseTokens(t, w.l, 0, api.ErrSize)
		case w.deep >= 0:
			tooDeep++
			refuseTokens(t, w.l, w.deep, deep)
		default:
			fine++
			if got, at, e := read.Parse(w.l); !same(got, x) || at != 0 || e != api.OK {
				t.Fatalf("Parse(%s): %v %d at %d, want %v", spelled(w.l, " "), got, e, at, x)
			}
		}
		if t.Failed() {
			return
		}
	}
	if fine < 5000 || tooDeep < 500 || tooMany < 50 {
		t.Errorf("%d were fine, %d too deep, %d of too many tokens", fine, tooDeep, tooMany)
	}
}

// P5.1 to P5.4: what was written is cut as it was, whatever blanks stand there; each of its tokens may be.
func TestWrittenIsCut(t *testing.T) {
	d := die(2)
	fine := 0
	for range 5000 {
		_, w := drawn(&d)
		s := d.one("", " ", "\n") + spelled(w.l, d.one(" ", "\n", "\t", " \n\t ")) + d.one("", "\t")
		if len(s) > api.MaxQuery || len(w.l) > api.MaxTokens {
			continue
		}
		fine++
		if got, at, e := read.Cut(s); !slices.Equal(got, w.l) || at != 0 || e != api.OK {
			t.Fatalf("Cut(%q): %v %d %d, want %v", s, got, at, e, w.l)
		}
		for _, x := range w.l {
			if e := read.CheckToken(x); e != api.OK {
				t.Fatalf("CheckToken(%v): %d", x, e)
			}
		}
	}
	if fine < 1000 {
		t.Errorf("only %d were cut", fine)
	}
}

// changed: tokens, with one of them left out, or another one in its place or ahead of it, perhaps more than once.
func (d *die) changed(l []api.Token) []api.Token {
	l = slices.Clone(l)
	for range 1 + d.below(2) {
		i := d.below(len(l))
		switch d.below(3) {
		case 0:
			l = slices.Delete(l, i, i+1)
		case 1:
			l[i] = d.token()
		default:
			l = slices.Insert(l, i, d.token())
		}
		if len(l) == 0 {
			break
		}
	}
	return l
}

func (d *die) token() api.Token {
	switch d.below(6) {
	case 0:
		return number(d.below(3))
	case 1:
		return quoted(d.one("", "or", "/"))
	case 2:
		return dollar(d.one("x", "for"))
	case 3:
		return mark(d.one(allMarks...))
	}
	return word(d.one("a", "x", "for", "let", "at", "in", "where", "order", "by", "descending", "return", "some", "every", "satisfies", "if", "then",
		"else", "or", "and", "is", "to", "div", "union", "except", "child", "self", "element", "attribute", "text", "node", "comment"))
}

// P5.5: whatever is wrong is told where it is: up to there the tokens are fine, or too few.
func TestWrongPlaces(t *testing.T) {
	d := die(3)
	var seen [api.ErrValue + 1]int
	for range 20000 {
		var l []api.Token
		if d.below(4) == 0 {
			for range d.below(12) {
				l = append(l, d.token())
			}
		} else {
			_, w := drawn(&d)
			l = d.changed(w.l)
		}
		if len(l) > api.MaxTokens {
			continue
		}
		x, at, e := read.Parse(l)
		seen[e]++
		if e != api.OK && !same(x, api.Phrase{}) || e == api.OK && at != 0 {
			t.Fatalf("Parse(%s): %v %d at %d", spelled(l, " "), x, e, at)
		}
		switch e {
		case api.OK:
			continue
		case api.ErrShort:
			if at != len(l) {
				t.Fatalf("Parse(%s): short at %d", spelled(l, " "), at)
			}
			continue
		case api.ErrNone:
			if at+1 >= len(l) || l[at].Kind != api.Word || l[at+1] != mark("::") || slices.Contains(axisNames, l[at].S) {
				t.Fatalf("Parse(%s): no axis at %d", spelled(l, " "), at)
			}
		case api.ErrForm, api.ErrDeep:
		default:
			t.Fatalf("Parse(%s): %d", spelled(l, " "), e)
		}
		if _, k, f := read.Parse(l[:at]); f != api.OK && (f != api.ErrShort || k != at) {
			t.Fatalf("Parse(%s): %d at %d, and of the tokens ahead %d at %d", spelled(l, " "), e, at, f, k)
		}
	}
	for _, e := range []api.Errno{api.OK, api.ErrForm, api.ErrShort, api.ErrNone, api.ErrDeep} {
		if seen[e] < 50 {
			t.Errorf("only %d times %d", seen[e], e)
		}
	}
}

// P5.3: of any bytes: what is cut may be; what is not has a place within the query, up to which it may be cut.
func TestAnyText(t *testing.T) {
	d := die(4)
	cuts := 0
	for range 60000 {
		s := ""
		for range d.below(9) {
			s += d.one("a", "$", "\"", "1", "99999999999999", " ", "\n", "\r", "/", ":", "!", "=", "<", ".", "-", "é", "\xff", "\x00", longest, "#", "or", "(")
		}
		l, at, e := read.Cut(s)
		for _, x := range l {
			if f := read.CheckToken(x); f != api.OK {
				t.Fatalf("Cut(%q): %v, of which CheckToken tells %d", s, x, f)
			}
		}
		if e == api.OK {
			cuts++
			if again, _, f := read.Cut(spelled(l, " ")); at != 0 || !slices.Equal(again, l) || f != api.OK {
				t.Fatalf("Cut(%q): %v %d, and of that again %v %d", s, l, at, again, f)
			}
			continue
		}
		if len(l) > 0 || at >= len(s) {
			t.Fatalf("Cut(%q): %v %d %d", s, l, at, e)
		}
		if _, k, f := read.Cut(s[:at]); k != 0 || f != api.OK {
			t.Fatalf("Cut(%q): %d at %d, and of what is ahead %d at %d", s, e, at, f, k)
		}
	}
	if cuts < 5000 {
		t.Errorf("only %d were cut", cuts)
	}
}

// lists of a phrase, all of them: each is handed to a function.
func lists(x *api.Phrase, args func([]api.Phrase), clauses func([]api.Clause)) {
	for i := range x.Args {
		lists(&x.Args[i], args, clauses)
	}
	for i := range x.Clauses {
		lists(&x.Clauses[i].Expr, args, clauses)
	}
	args(x.Args)
	clauses(x.Clauses)
}

// What is handed in stays as it is, its spare room too; answers share no memory, nor do lists of one answer.
func TestAnswersAreNew(t *testing.T) {
	d := die(5)
	junk := call("junk")
	for range 2000 {
		_, w := drawn(&d)
		room := append(slices.Clone(w.l), word("spare"), word("room"))
		kept := slices.Clone(room)
		first, _, e := read.Parse(room[:len(w.l)])
		second, _, _ := read.Parse(room[:len(w.l)])
		if !slices.Equal(room, kept) {
			t.Fatalf("Parse(%s) changed what was handed in", spelled(w.l, " "))
		}
		if e != api.OK {
			continue
		}
		lists(&first, func(l []api.Phrase) {
			for i := len(l); i < cap(l); i++ {
				l[:cap(l)][i] = junk
			}
		}, func(l []api.Clause) {
			for i := len(l); i < cap(l); i++ {
				l[:cap(l)][i] = where(junk)
			}
		})
		if !same(first, second) {
			t.Fatalf("Parse(%s): spare room is shared: %v, was %v", spelled(w.l, " "), first, second)
		}
		lists(&first, func(l []api.Phrase) { clear(l) }, func(l []api.Clause) { clear(l) })
		if third, _, _ := read.Parse(room[:len(w.l)]); !same(second, third) {
			t.Fatalf("Parse(%s): %v, then %v", spelled(w.l, " "), second, third)
		}
	}
	first, _, _ := read.Cut("a + 1")
	clear(first[:cap(first)])
	if second, _, _ := read.Cut("a + 1"); !slices.Equal(second, tokens(word("a"), mark("+"), number(1))) {
		t.Errorf("Cut again: %v", second)
	}
}
