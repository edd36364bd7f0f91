package lift

import (
	"slices"

	"pleacher/api"
)

// loop: a For or a Sorted.
func (l *lifting) loop(x *api.Expr, s scope) int {
	ranked := l.rank(l.expr(&x.Args[0], s), innerCol, "", iterCol, posCol)
	ways := l.project(ranked, as(outerCol, iterCol), same(innerCol))
	inner := l.enter(x, s, ranked, ways)
	if x.Kind == api.For {
		return l.leave(l.expr(&x.Args[1], inner), ways, innerCol)
	}
	ways = l.ordered(l.expr(&x.Args[1], inner), inner.loop, ways, x.N == 1)
	return l.leave(l.expr(&x.Args[2], inner), ways, rankCol, innerCol)
}

// enter the iterations of a loop: one for each item, numbered in their order.
func (l *lifting) enter(x *api.Expr, s scope, ranked, ways int) scope {
	used, own := usedIn(x.Args[1:]...), ownNames(x)
	vars := l.carried(s.vars, ways, func(name string) bool { return used(name) && !slices.Contains(own, name) })
	vars[x.Name] = l.single(l.project(ranked, as(iterCol, innerCol), same(itemCol)))
	if x.At != "" {
		placed := l.rank(ranked, placeCol, iterCol, posCol)
		vars[x.At] = l.single(l.project(placed, as(iterCol, innerCol), as(itemCol, placeCol)))
	}
	return scope{l.project(ranked, as(iterCol, innerCol)), vars}
}

// leave the iterations of a loop: their sequences, in the order of some columns of the ways, one behind the other.
func (l *lifting) leave(body, ways int, by ...string) int {
	joined := l.join(body, ways, iterCol, innerCol)
	placed := l.rank(joined, placeCol, outerCol, slices.Concat(by, []string{posCol})...)
	return l.project(placed, as(iterCol, outerCol), as(posCol, placeCol), same(itemCol))
}

// ordered: the ways, with the ranks of the iterations by their keys. Equal keys have equal ranks, so that iterations with
// the same one stay in their order whichever way round ranks are taken; those without a key have the least one.
func (l *lifting) ordered(key, loop, ways int, down bool) int {
	keys := l.applied("data", l.atMostOne(key))
	known := l.unique(l.project(keys, as(keyCol, itemCol)), keyCol)
	ranked := l.join(keys, l.rank(known, rankCol, "", keyCol), itemCol, keyCol)
	ranks := l.filled(l.project(ranked, same(iterCol), as(itemCol, rankCol)), loop, number(0))
	if down {
		ranks = l.applied("neg", ranks)
	}
	joined := l.join(ways, ranks, innerCol, iterCol)
	return l.project(joined, same(outerCol), same(innerCol), as(rankCol, itemCol))
}
