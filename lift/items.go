package lift

import (
	"strconv"

	"pleacher/api"
)

// What stands here is on the way to sequences: ops with the columns iter and item.

// items of sequences, wherever they stand in them.
func (l *lifting) items(q int) int { return l.project(q, same(iterCol), same(itemCol)) }

// single: sequences of one item, of what has one at most in each iteration.
func (l *lifting) single(items int) int {
	placed := l.cross(items, l.column(posCol, number(1)))
	return l.project(placed, same(iterCol), same(posCol), same(itemCol))
}

// inOrder: sequences of nodes, by their places.
func (l *lifting) inOrder(nodes int) int {
	return l.project(l.rank(nodes, posCol, iterCol, itemCol), same(iterCol), same(posCol), same(itemCol))
}

// filled: what some iterations have; all others of a loop have an item that is told.
func (l *lifting) filled(items, loop int, x api.Item) int {
	others := l.except(loop, items, iterCol)
	return l.union(items, l.cross(others, l.column(itemCol, x)))
}

// applied: a function of items, of one from each op; in an iteration where they have more, of each with each.
func (l *lifting) applied(function string, args ...int) int {
	all, cols := args[0], []string{itemCol}
	for i, arg := range args[1:] {
		n := strconv.Itoa(i + 1)
		other := l.project(arg, as(iterCol+n, iterCol), as(itemCol+n, itemCol))
		all = l.join(all, other, iterCol, iterCol+n)
		cols = append(cols, itemCol+n)
	}
	return l.project(l.apply(all, function, cols...), same(iterCol), as(itemCol, valueCol))
}

// mapped: a function of each item of sequences.
func (l *lifting) mapped(function string, q int) int {
	return l.project(l.apply(q, function, itemCol), same(iterCol), same(posCol), as(itemCol, valueCol))
}

// firsts: the first item of each sequence that has one.
func (l *lifting) firsts(q int) int { return l.items(l.unique(l.sort(q, posCol), iterCol)) }

// counts: of each sequence that has items how many.
func (l *lifting) counts(q int) int { return l.group(q, "count") }

// truths: whether a sequence is true, in each iteration.
func (l *lifting) truths(q, loop int) int {
	return l.filled(l.applied("ebv", l.firsts(q), l.counts(q)), loop, truth(false))
}

// whether an iteration has some row: that is told, or the contrary, in each one.
func (l *lifting) whether(rows, loop int, is bool) int {
	some := l.unique(l.project(rows, same(iterCol)), iterCol)
	return l.filled(l.cross(some, l.column(itemCol, truth(is))), loop, truth(!is))
}

// atMostOne: the items of sequences that may not have more. Nothing is made of the counts: they are there to be refused.
func (l *lifting) atMostOne(q int) int {
	l.apply(l.counts(q), "one", itemCol)
	return l.items(q)
}

// nodes: the items of sequences that must be such.
func (l *lifting) nodes(q int) int { return l.applied("node", l.items(q)) }
