package lift

import "pleacher/api"

// call of a function of sequences, in all iterations of a loop.
type call func(l *lifting, loop int, args ...int) int

// calls: the functions of the core, by their names.
func calls() map[string]call {
	all := map[string]call{
		"count":     (*lifting).count,
		"empty":     func(l *lifting, loop int, args ...int) int { return l.single(l.whether(args[0], loop, false)) },
		"exists":    func(l *lifting, loop int, args ...int) int { return l.single(l.whether(args[0], loop, true)) },
		"boolean":   func(l *lifting, loop int, args ...int) int { return l.single(l.truths(args[0], loop)) },
		"not":       ofTruths("not"),
		"and":       ofTruths("and"),
		"or":        ofTruths("or"),
		"sum":       (*lifting).sum,
		"min":       extreme("min"),
		"max":       extreme("max"),
		"data":      func(l *lifting, _ int, args ...int) int { return l.mapped("data", args[0]) },
		"distinct":  (*lifting).distinct,
		"reverse":   (*lifting).reverse,
		"ddo":       (*lifting).ddo,
		"union":     (*lifting).anyOf,
		"intersect": (*lifting).bothOf,
		"except":    (*lifting).firstOf,
		"string":    orElse("string", text("")),
		"name":      orElse("name", text("")),
		"length":    orElse("length", number(0)),
		"concat":    ofStrings("concat", 2),
		"contains":  ofStrings("contains", 2),
		"starts":    ofStrings("starts", 2),
		"substring": ofStrings("substring", 1),
		"to":        (*lifting).to,
		"holds":     (*lifting).holds,
	}
	for _, name := range [...]string{"integer", "neg", "+", "-", "*", "div", "mod", "is", "<<", ">>"} {
		all[name] = ofOnes(name)
	}
	for _, name := range [...]string{"=", "!=", "<", "<=", ">", ">="} {
		all[name] = ofPairs(name)
	}
	return all
}

func (l *lifting) count(loop int, args ...int) int {
	return l.single(l.filled(l.counts(args[0]), loop, number(0)))
}

// sum: in their order, as one that leaves the bounds on the way has no value.
func (l *lifting) sum(loop int, args ...int) int {
	integers := l.sort(l.mapped("integer", args[0]), posCol)
	return l.single(l.filled(l.group(integers, "sum"), loop, number(0)))
}

// extreme: the least or the greatest one; nothing of none.
func extreme(aggregate string) call {
	return func(l *lifting, _ int, args ...int) int {
		return l.single(l.group(l.mapped("integer", args[0]), aggregate))
	}
}

func (l *lifting) distinct(_ int, args ...int) int {
	return l.unique(l.sort(l.mapped("data", args[0]), posCol), iterCol, itemCol)
}

func (l *lifting) reverse(_ int, args ...int) int {
	return l.project(l.apply(args[0], "neg", posCol), same(iterCol), as(posCol, valueCol), same(itemCol))
}

// set: nodes by their places, each once.
func (l *lifting) set(nodes int) int { return l.inOrder(l.unique(nodes, iterCol, itemCol)) }

func (l *lifting) ddo(_ int, args ...int) int { return l.set(l.nodes(args[0])) }

func (l *lifting) anyOf(_ int, args ...int) int {
	return l.set(l.union(l.nodes(args[0]), l.nodes(args[1])))
}

func (l *lifting) bothOf(_ int, args ...int) int {
	a, b := l.nodes(args[0]), l.nodes(args[1])
	return l.set(l.except(a, l.except(a, b, iterCol, itemCol), iterCol, itemCol))
}

func (l *lifting) firstOf(_ int, args ...int) int {
	return l.set(l.except(l.nodes(args[0]), l.nodes(args[1]), iterCol, itemCol))
}

// ofTruths: a function of whether sequences are true.
func ofTruths(name string) call {
	return func(l *lifting, loop int, args ...int) int {
		var truths []int
		for _, q := range args {
			truths = append(truths, l.truths(q, loop))
		}
		return l.single(l.applied(name, truths...))
	}
}

// orElse: a function of one item, which has a value of none, too.
func orElse(name string, none api.Item) call {
	return func(l *lifting, loop int, args ...int) int {
		return l.single(l.filled(l.applied(name, l.atMostOne(args[0])), loop, none))
	}
}

// ofOnes: a function of one item each; nothing, if one has none.
func ofOnes(name string) call {
	return func(l *lifting, _ int, args ...int) int {
		var ones []int
		for _, q := range args {
			ones = append(ones, l.atMostOne(q))
		}
		return l.single(l.applied(name, ones...))
	}
}

// ofStrings: a function of one item each, of which the first ones are strings: empty, if there is none; nothing, if one of
// the others has none.
func ofStrings(name string, strings int) call {
	return func(l *lifting, loop int, args ...int) int {
		var ones []int
		for i, q := range args {
			one := l.atMostOne(q)
			if i < strings {
				one = l.filled(one, loop, text(""))
			}
			ones = append(ones, one)
		}
		return l.single(l.applied(name, ones...))
	}
}

// ofPairs: whether a function is true of some item of one sequence and some one of another.
func ofPairs(name string) call {
	return func(l *lifting, loop int, args ...int) int {
		pairs := l.applied(name, l.items(args[0]), l.items(args[1]))
		return l.single(l.whether(l.choose(pairs, itemCol), loop, true))
	}
}

// to: of all numbers that there may be those that there are are added to the first one: no other one need be in bounds.
func (l *lifting) to(_ int, args ...int) int {
	from, last := l.atMostOne(args[0]), l.atMostOne(args[1])
	spans := l.project(l.applied("span", from, last), same(iterCol), as(placeCol, itemCol))
	var numbers []api.Item
	for n := range api.MaxSpan {
		numbers = append(numbers, number(n))
	}
	all := l.apply(l.cross(spans, l.column(posCol, numbers...)), "<", posCol, placeCol)
	there := l.project(l.choose(all, valueCol), as(innerCol, iterCol), same(posCol))
	added := l.apply(l.join(there, from, innerCol, iterCol), "+", itemCol, posCol)
	return l.project(added, same(iterCol), same(posCol), as(itemCol, valueCol))
}

func (l *lifting) holds(loop int, args ...int) int {
	place := l.atMostOne(args[1])
	held := l.applied("holds", l.firsts(args[0]), l.counts(args[0]), place)
	return l.single(l.filled(held, loop, truth(false)))
}
