package core

import (
	"strings"

	"pleacher/api"
)

// tooMany parts for an answer.
func (l *lowering) tooMany() bool { return l.parts > api.MaxParts }

// keeps: is what is made kept? Not once nothing can come of it any more: as a key repeats what is in the Lets around it, one
// such phrase within the other, parts may be far too many to be written out.
func (l *lowering) keeps() bool { return l.wrong == api.OK && !l.tooMany() }

// made: an expression with arguments, in memory of its own. All that is made is a part of the answer, once.
func (l *lowering) made(x api.Expr, args ...api.Expr) api.Expr {
	l.parts++
	if !l.keeps() {
		return api.Expr{}
	}
	x.Name, x.At = strings.Clone(x.Name), strings.Clone(x.At)
	x.Item.S, x.Test.Name = strings.Clone(x.Item.S), strings.Clone(x.Test.Name)
	x.Args = args
	return x
}

// again: the same expression once more.
func (l *lowering) again(x api.Expr) api.Expr {
	var args []api.Expr
	for _, y := range x.Args {
		args = append(args, l.again(y))
	}
	return l.made(x, args...)
}

func (l *lowering) call(name string, args ...api.Expr) api.Expr {
	return l.made(api.Expr{Kind: api.Call, Name: name}, args...)
}

func (l *lowering) variable(name string) api.Expr {
	return l.made(api.Expr{Kind: api.Var, Name: name})
}

func (l *lowering) lit(x api.Item) api.Expr { return l.made(api.Expr{Kind: api.Lit, Item: x}) }

func (l *lowering) truth(is bool) api.Expr {
	x := api.Item{Kind: api.IsBool}
	if is {
		x.N = 1
	}
	return l.lit(x)
}

func (l *lowering) nothing() api.Expr { return l.made(api.Expr{Kind: api.Seq}) }

func (l *lowering) let(name string, value, body api.Expr) api.Expr {
	return l.made(api.Expr{Kind: api.Let, Name: name}, value, body)
}

func (l *lowering) loop(name, at string, value, body api.Expr) api.Expr {
	return l.made(api.Expr{Kind: api.For, Name: name, At: at}, value, body)
}

func (l *lowering) conditional(condition, then, other api.Expr) api.Expr {
	return l.made(api.Expr{Kind: api.If}, condition, then, other)
}

func (l *lowering) step(p *api.Phrase, from api.Expr) api.Expr {
	return l.made(api.Expr{Kind: api.Step, Axis: p.Axis, Test: p.Test}, from)
}
