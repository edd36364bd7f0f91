package read

import (
	"strings"

	"pleacher/api"
)

// parser: tokens, the place up to which they are read, and how many levels are open there. Once something is wrong
// the place stays, and no token is seen any more, so that whatever was begun comes to its end.
type parser struct {
	l     []api.Token
	at    int
	open  int
	wrong api.Errno
}

// Parse tokens; the place of the one that is wrong.
func Parse(l []api.Token) (api.Phrase, int, api.Errno) {
	if len(l) > api.MaxTokens {
		return api.Phrase{}, 0, api.ErrSize
	}
	for i, t := range l {
		if e := CheckToken(t); e != api.OK {
			return api.Phrase{}, i, e
		}
	}
	p := parser{l: l}
	x := p.list()
	if p.at < len(l) {
		p.miss()
	}
	if p.wrong != api.OK {
		return api.Phrase{}, p.at, p.wrong
	}
	return x, 0, api.OK
}

func mark(s string) api.Token { return api.Token{Kind: api.Mark, S: s} }

func word(s string) api.Token { return api.Token{Kind: api.Word, S: s} }

// see the token that stands so many places ahead; one of no kind: there is none.
func (p *parser) see(ahead int) api.Token {
	if p.wrong != api.OK || p.at+ahead >= len(p.l) {
		return api.Token{}
	}
	return p.l[p.at+ahead]
}

// skip a token, if it stands next.
func (p *parser) skip(t api.Token) bool {
	if p.see(0) != t {
		return false
	}
	p.at++
	return true
}

// want a token: nothing else may stand next.
func (p *parser) want(t api.Token) {
	if !p.skip(t) {
		p.miss()
	}
}

// text of a token of a kind: nothing else may stand next.
func (p *parser) text(kind int) string {
	t := p.see(0)
	if t.Kind != kind {
		p.miss()
		return ""
	}
	p.at++
	return strings.Clone(t.S)
}

// miss: something else must stand next.
func (p *parser) miss() {
	if p.at == len(p.l) {
		p.fail(api.ErrShort)
	} else {
		p.fail(api.ErrForm)
	}
}

// fail: what is wrong first is told.
func (p *parser) fail(e api.Errno) {
	if p.wrong == api.OK {
		p.wrong = e
	}
}

// enter a level; what is answered leaves it. One that the next token does not begin is not too deep: it is missing.
func (p *parser) enter(begins bool) func() {
	if p.open >= api.MaxNest {
		if !begins {
			p.miss()
		}
		p.fail(api.ErrDeep)
	}
	p.open++
	return func() { p.open-- }
}

func (p *parser) list() api.Phrase {
	defer p.enter(p.singleBegins())()
	l := p.singles()
	if len(l) == 1 {
		return l[0]
	}
	return api.Phrase{Kind: api.Seq, Args: l}
}

// singles, with a comma between.
func (p *parser) singles() []api.Phrase {
	l := []api.Phrase{p.single()}
	for p.skip(mark(",")) {
		l = append(l, p.single())
	}
	return l
}

func (p *parser) singleBegins() bool {
	switch p.see(0) {
	case mark("-"), mark("/"), mark("//"):
		return true
	}
	return p.stepBegins()
}

func (p *parser) single() api.Phrase {
	defer p.enter(p.singleBegins())()
	bound := p.see(1).Kind == api.Dollar
	switch first := p.see(0); {
	case bound && (first == word("for") || first == word("let")):
		return p.flwor()
	case bound && first == word("some"):
		return p.quantified(api.Some)
	case bound && first == word("every"):
		return p.quantified(api.Every)
	case first == word("if") && p.see(1) == mark("("):
		return p.conditional()
	}
	return p.binary(loosest)
}

func (p *parser) flwor() api.Phrase {
	x := api.Phrase{Kind: api.Flwor, Clauses: p.bindings()}
	if p.skip(word("where")) {
		x.Clauses = append(x.Clauses, api.Clause{Kind: api.Where, Expr: p.single()})
	}
	if p.skip(word("order")) {
		x.Clauses = append(x.Clauses, p.orderBy())
	}
	p.want(word("return"))
	x.Args = []api.Phrase{p.single()}
	return x
}

func (p *parser) bindings() []api.Clause {
	var l []api.Clause
	for {
		switch {
		case p.skip(word("for")):
			l = append(l, p.forIn())
		case p.skip(word("let")):
			l = append(l, p.letBe())
		default:
			return l
		}
	}
}

func (p *parser) forIn() api.Clause {
	c := api.Clause{Kind: api.ForIn, Name: p.text(api.Dollar)}
	if p.skip(word("at")) {
		c.At = p.text(api.Dollar)
	}
	p.want(word("in"))
	c.Expr = p.single()
	return c
}

func (p *parser) letBe() api.Clause {
	c := api.Clause{Kind: api.LetBe, Name: p.text(api.Dollar)}
	p.want(mark(":="))
	c.Expr = p.single()
	return c
}

// orderBy: what stands behind order.
func (p *parser) orderBy() api.Clause {
	p.want(word("by"))
	c := api.Clause{Kind: api.OrderBy, Expr: p.single()}
	c.Down = p.skip(word("descending"))
	return c
}

func (p *parser) quantified(kind int) api.Phrase {
	p.at++
	x := api.Phrase{Kind: kind, Name: p.text(api.Dollar)}
	p.want(word("in"))
	value := p.single()
	p.want(word("satisfies"))
	x.Args = []api.Phrase{value, p.single()}
	return x
}

func (p *parser) conditional() api.Phrase {
	p.at += 2
	condition := p.list()
	p.want(mark(")"))
	p.want(word("then"))
	then := p.single()
	p.want(word("else"))
	return api.Phrase{Kind: api.If, Args: []api.Phrase{condition, then, p.single()}}
}
