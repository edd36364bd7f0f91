package lift

import (
	"maps"
	"slices"

	"pleacher/api"
)

// scope: the iterations that there are, one a row, with the column iter, and the variables.
type scope struct {
	loop int
	vars variables
}

// variables, by their names: the sequences that they were given, in the iterations that there are.
type variables map[string]int

// with a variable more.
func (s scope) with(name string, op int) scope {
	vars := maps.Clone(s.vars)
	vars[name] = op
	return scope{s.loop, vars}
}

// carried: those variables that are used, as they are in other iterations; ways tell from which ones there were to those.
// What is not used is left behind: it may have many items, and would have them again in each iteration.
func (l *lifting) carried(vars variables, ways int, used func(name string) bool) variables {
	there := variables{}
	for _, name := range slices.Sorted(maps.Keys(vars)) {
		if used(name) {
			joined := l.join(vars[name], ways, iterCol, outerCol)
			there[name] = l.project(joined, as(iterCol, innerCol), same(posCol), same(itemCol))
		}
	}
	return there
}

// usedIn: says which variables expressions use that have their names from outside.
func usedIn(args ...api.Expr) func(name string) bool {
	uses, hidden := map[string]int{}, map[string]int{}
	var look func(x *api.Expr)
	look = func(x *api.Expr) {
		if x.Kind == api.Var && hidden[x.Name] == 0 {
			uses[x.Name]++
		}
		own := ownNames(x)
		for i := range x.Args {
			if i == 1 {
				hide(hidden, 1, own...)
			}
			look(&x.Args[i])
		}
		hide(hidden, -1, own...)
	}
	for i := range args {
		look(&args[i])
	}
	return func(name string) bool { return uses[name] > 0 }
}

// hide names once more, or once less.
func hide(hidden map[string]int, more int, names ...string) {
	for _, name := range names {
		hidden[name] += more
	}
}

// ownNames: those that an expression gives to its arguments behind the first one. What gives some has such arguments.
func ownNames(x *api.Expr) []string {
	switch {
	case x.Kind == api.Let, isLoop(x) && x.At == "":
		return []string{x.Name}
	case isLoop(x):
		return []string{x.Name, x.At}
	}
	return nil
}

func isLoop(x *api.Expr) bool { return x.Kind == api.For || x.Kind == api.Sorted }
