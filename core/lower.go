package core

import "pleacher/api"

// Variables that no query names: the item that is looked at, the how many-th it is, how many there are, all of them.
const (
	dot     = "."
	dotAt   = ".at"
	dotLast = ".last"
	dotAll  = ".all"
)

// lowering: the names that are in scope, how many parts were made so far, and what was wrong first: from then on
// nothing is looked at any more.
type lowering struct {
	calls     table
	operators table
	names     scope
	parts     int
	wrong     api.Errno
}

// Lower a phrase to an expression of the core.
func Lower(p api.Phrase) (api.Expr, api.Errno) {
	l := lowering{calls: calls(), operators: operators(), names: scope{}}
	x := l.expr(&p)
	if l.wrong != api.OK {
		return api.Expr{}, l.wrong
	}
	if l.tooMany() {
		return api.Expr{}, api.ErrSize
	}
	if e := Check(x); e != api.OK {
		return api.Expr{}, e
	}
	return x, api.OK
}

// refuse: what is wrong first is told.
func (l *lowering) refuse(e api.Errno) {
	if l.wrong == api.OK {
		l.wrong = e
	}
}

// expr of a phrase; nothing, once something is wrong.
func (l *lowering) expr(p *api.Phrase) api.Expr {
	if l.wrong == api.OK {
		l.wrong = l.checkAlone(p)
	}
	if l.wrong != api.OK {
		return api.Expr{}
	}
	switch p.Kind {
	case api.Path:
		return l.path(p)
	case api.Filter:
		return l.filter(p)
	case api.Some, api.Every:
		return l.quantified(p)
	case api.Flwor:
		return l.flwor(p)
	case api.Seq, api.If, api.Make, api.Minus, api.Binary, api.Call:
		return l.withParts(p)
	}
	return l.leaf(p)
}

// exprs of phrases, one by one.
func (l *lowering) exprs(phrases []api.Phrase) []api.Expr {
	var made []api.Expr
	for i := range phrases {
		x := l.expr(&phrases[i])
		if l.keeps() {
			made = append(made, x)
		}
	}
	return made
}

// leaf: the expression of a phrase that has no parts.
func (l *lowering) leaf(p *api.Phrase) api.Expr {
	switch p.Kind {
	case api.Lit:
		return l.lit(p.Item)
	case api.Var:
		return l.variable(p.Name)
	case api.Dot:
		return l.variable(dot)
	case api.Step:
		return l.step(p, l.variable(dot))
	}
	return l.made(api.Expr{Kind: api.Root})
}

// withParts: the expression of a phrase all of whose parts are in the same scope.
func (l *lowering) withParts(p *api.Phrase) api.Expr {
	switch p.Kind {
	case api.If:
		condition := l.call("boolean", l.expr(&p.Args[0]))
		return l.conditional(condition, l.expr(&p.Args[1]), l.expr(&p.Args[2]))
	case api.Make:
		return l.made(api.Expr{Kind: api.Make, N: p.N, Name: nodeName(p)}, l.expr(&p.Args[0]))
	case api.Minus:
		return l.call("neg", l.exprs(p.Args)...)
	case api.Binary:
		return l.call(l.operators[p.Name].name, l.exprs(p.Args)...)
	case api.Call:
		return l.called(p)
	}
	return l.made(api.Expr{Kind: api.Seq}, l.exprs(p.Args)...)
}

// nodeName: the Name of a node that is made; a Text has none, whatever the phrase has.
func nodeName(p *api.Phrase) string {
	if p.N == api.Text {
		return ""
	}
	return p.Name
}

func (l *lowering) called(p *api.Phrase) api.Expr {
	switch p.Name {
	case "true":
		return l.truth(true)
	case "false":
		return l.truth(false)
	case "position":
		return l.variable(dotAt)
	case "last":
		return l.variable(dotLast)
	}
	return l.call(l.calls[p.Name].name, l.exprs(p.Args)...)
}
