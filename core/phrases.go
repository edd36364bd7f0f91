package core

import "pleacher/api"

// checkAlone: what is refused of a phrase ahead of its parts.
func (l *lowering) checkAlone(p *api.Phrase) api.Errno {
	if e := checkParts(p.Kind, len(p.Args)); e != api.OK {
		return e
	}
	switch p.Kind {
	case api.Lit:
		return checkLit(p.Item)
	case api.Var:
		return l.names.check(p.Name)
	case api.Dot:
		return l.names.check(dot)
	case api.Step:
		if e := checkStep(p.Axis, p.Test); e != api.OK {
			return e
		}
		return l.names.check(dot)
	case api.Make:
		return checkMake(p.N, p.Name)
	case api.Binary:
		return l.operators.check(p.Name, len(p.Args))
	case api.Call:
		return l.checkCall(p.Name, len(p.Args))
	case api.Some, api.Every:
		return checkNames(p.Name, "")
	case api.Flwor:
		return checkClauses(p.Clauses)
	}
	return api.OK
}

// checkParts: may a phrase of a Kind have so many parts? What binds names in the core is no phrase: it is written as clauses.
func checkParts(kind, parts int) api.Errno {
	fits := false
	switch kind {
	case api.Lit, api.Var, api.Root, api.Dot, api.Step:
		fits = parts == 0
	case api.Make, api.Minus, api.Flwor:
		fits = parts == 1
	case api.Path, api.Some, api.Every, api.Binary:
		fits = parts == 2
	case api.If:
		fits = parts == 3
	case api.Filter:
		fits = parts >= 1
	case api.Seq, api.Call:
		fits = true
	default:
		return api.ErrKind
	}
	if !fits {
		return api.ErrCount
	}
	return api.OK
}

func (l *lowering) checkCall(name string, args int) api.Errno {
	switch name {
	case "true", "false", "position", "last":
		if args > 0 {
			return api.ErrCount
		}
	}
	switch name {
	case "true", "false":
		return api.OK
	case "position":
		return l.names.check(dotAt)
	case "last":
		return l.names.check(dotLast)
	}
	return l.calls.check(name, args)
}
