package core

import "pleacher/api"

func (l *lowering) path(p *api.Phrase) api.Expr {
	left, right := l.expr(&p.Args[0]), &p.Args[1]
	if right.Kind == api.Step && len(right.Args) == 0 {
		l.refuse(checkStep(right.Axis, right.Test))
		return l.step(right, left)
	}
	l.names.enter(dot)
	body := l.expr(right)
	l.names.leave(dot)
	return l.call("ddo", l.loop(dot, "", left, body))
}

func (l *lowering) filter(p *api.Phrase) api.Expr {
	x := l.expr(&p.Args[0])
	for i := range p.Args[1:] {
		l.names.enter(dotAll, dotLast, dot, dotAt)
		predicate := l.expr(&p.Args[1+i])
		l.names.leave(dotAll, dotLast, dot, dotAt)
		x = l.filtered(x, predicate)
	}
	return x
}

// filtered: those items for which a predicate holds.
func (l *lowering) filtered(x, predicate api.Expr) api.Expr {
	holds := l.call("holds", predicate, l.variable(dotAt))
	kept := l.conditional(holds, l.variable(dot), l.nothing())
	loop := l.loop(dot, dotAt, l.variable(dotAll), kept)
	count := l.call("count", l.variable(dotAll))
	return l.let(dotAll, x, l.let(dotLast, count, loop))
}

func (l *lowering) quantified(p *api.Phrase) api.Expr {
	value := l.expr(&p.Args[0])
	l.names.enter(p.Name)
	condition := l.expr(&p.Args[1])
	l.names.leave(p.Name)
	if p.Kind == api.Some {
		return l.some(p.Name, value, condition)
	}
	return l.every(p.Name, value, condition)
}

// some: it is true if an item tells so.
func (l *lowering) some(name string, value, condition api.Expr) api.Expr {
	told := l.conditional(l.call("boolean", condition), l.truth(true), l.nothing())
	return l.call("exists", l.loop(name, "", value, told))
}

// every: it is true if no item tells that it is not.
func (l *lowering) every(name string, value, condition api.Expr) api.Expr {
	told := l.conditional(l.call("boolean", condition), l.nothing(), l.truth(true))
	return l.call("empty", l.loop(name, "", value, told))
}
