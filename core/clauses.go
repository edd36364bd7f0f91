package core

import (
	"slices"

	"pleacher/api"
)

// checkClauses: what is refused of clauses ahead of their expressions.
func checkClauses(clauses []api.Clause) api.Errno {
	loops := 0
	for i := range clauses {
		if e := checkFirst(clauses[i:], loops); e != api.OK {
			return e
		}
		if clauses[i].Kind == api.ForIn {
			loops++
		}
	}
	return api.OK
}

// checkFirst clause of those that are left; so many loops are ahead of it.
func checkFirst(left []api.Clause, loops int) api.Errno {
	c, isLast := &left[0], len(left) == 1
	switch c.Kind {
	case api.ForIn:
		return checkNames(c.Name, c.At)
	case api.LetBe:
		return checkNames(c.Name, "")
	case api.Where:
		if !isLast && left[1].Kind != api.OrderBy {
			return api.ErrForm
		}
	case api.OrderBy:
		if !isLast || loops != 1 {
			return api.ErrForm
		}
	default:
		return api.ErrKind
	}
	return api.OK
}

// clause, and its expression in the core.
type clause struct {
	*api.Clause
	value api.Expr
}

// flwor: its clauses are not gone through by calls in one another: there may be more of them than calls can be open.
func (l *lowering) flwor(p *api.Phrase) api.Expr {
	var clauses []clause
	for i := range p.Clauses {
		c := clause{&p.Clauses[i], l.expr(&p.Clauses[i].Expr)}
		if l.keeps() {
			clauses = append(clauses, c)
		}
		l.names.enter(namesOf(c.Clause)...)
	}
	body := l.expr(&p.Args[0])
	for i := range p.Clauses {
		l.names.leave(namesOf(&p.Clauses[i])...)
	}
	if !l.keeps() {
		return api.Expr{}
	}
	end := len(clauses) - 1
	if end >= 0 && clauses[end].Kind == api.OrderBy {
		return l.sorted(clauses[:end], clauses[end], body)
	}
	return l.around(clauses, body)
}

// namesOf a clause: those that are in scope behind it.
func namesOf(c *api.Clause) []string {
	switch c.Kind {
	case api.ForIn:
		return []string{c.Name, c.At}
	case api.LetBe:
		return []string{c.Name}
	}
	return nil
}

// around a body: clauses, from the last one to the first one.
func (l *lowering) around(clauses []clause, body api.Expr) api.Expr {
	for _, c := range slices.Backward(clauses) {
		switch c.Kind {
		case api.ForIn:
			body = l.loop(c.Name, c.At, c.value, body)
		case api.LetBe:
			body = l.let(c.Name, c.value, body)
		case api.Where:
			body = l.conditional(l.call("boolean", c.value), body, l.nothing())
		}
	}
	return body
}

// sorted: clauses, just one of which is a loop, in the order of a last one. The key is told ahead of the body, and so the
// Lets on which both hang stand around both.
func (l *lowering) sorted(clauses []clause, order clause, body api.Expr) api.Expr {
	at := slices.IndexFunc(clauses, func(c clause) bool { return c.Kind == api.ForIn })
	loop, behind := clauses[at], clauses[at+1:]
	key := order.value
	for _, c := range slices.Backward(behind) {
		if c.Kind == api.LetBe {
			key = l.let(c.Name, l.again(c.value), key)
		}
	}
	x := api.Expr{Kind: api.Sorted, Name: loop.Name, At: loop.At}
	if order.Down {
		x.N = 1
	}
	return l.around(clauses[:at], l.made(x, loop.value, key, l.around(behind, body)))
}
