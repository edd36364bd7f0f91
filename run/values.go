package run

import (
	"strconv"
	"strings"

	"pleacher/api"
)

func intItem(n int) api.Item { return api.Item{Kind: api.IsInt, N: n} }

func textItem(s string) api.Item { return api.Item{Kind: api.IsText, S: s} }

func boolItem(is bool) api.Item {
	if is {
		return api.Item{Kind: api.IsBool, N: 1}
	}
	return api.Item{Kind: api.IsBool}
}

func inBounds(n int) bool { return -api.MaxInt <= n && n <= api.MaxInt }

func (f *forest) data(x api.Item) (api.Item, bool) {
	if x.Kind != api.IsNode {
		return x, true
	}
	if !f.has(x) {
		return api.Item{}, false
	}
	return textItem(f.text(x.N)), true
}

func (f *forest) node(x api.Item) (api.Item, bool) { return x, f.has(x) }

func (f *forest) name(x api.Item) (api.Item, bool) {
	if !f.has(x) {
		return api.Item{}, false
	}
	return textItem(f.nodes[x.N].Name), true
}

func (f *forest) one(x api.Item) (api.Item, bool) { return x, x.Kind == api.IsInt && x.N <= 1 }

// written: an item as a string.
func (f *forest) written(x api.Item) (string, bool) {
	d, ok := f.data(x)
	switch d.Kind {
	case api.IsInt:
		return strconv.Itoa(d.N), true
	case api.IsBool:
		return strconv.FormatBool(d.N != 0), true
	}
	return d.S, ok
}

func (f *forest) integer(x api.Item) (int, bool) {
	d, ok := f.data(x)
	if d.Kind == api.IsText {
		return parseInteger(d.S)
	}
	return d.N, ok
}

// parseInteger: a number that is written just as one is told: without a plus, a blank, or a 0 ahead.
func parseInteger(s string) (int, bool) {
	if len(s) > len("-1099511627776") { // a text may be long; MaxInt is not
		return 0, false
	}
	n, err := strconv.Atoi(s)
	return n, err == nil && inBounds(n) && strconv.Itoa(n) == s
}

// product: it may not be made before it is known to be in bounds, as numbers wrap round.
func product(n ...int) (int, bool) {
	a, b := n[0], n[1]
	if a != 0 && max(b, -b) > api.MaxInt/max(a, -a) {
		return 0, false
	}
	return a * b, true
}

func quotient(n ...int) (int, bool) {
	if n[1] == 0 {
		return 0, false
	}
	return n[0] / n[1], true
}

func remainder(n ...int) (int, bool) {
	if n[1] == 0 {
		return 0, false
	}
	return n[0] % n[1], true
}

func span(n ...int) (int, bool) {
	many := max(0, n[1]-n[0]+1)
	return many, many <= api.MaxSpan
}

// concat: too long a text is not even made.
func concat(s ...string) (api.Item, bool) {
	if len(s[0])+len(s[1]) > api.MaxText {
		return api.Item{}, false
	}
	return textItem(s[0] + s[1]), true
}

func substring(f *forest, items ...api.Item) (api.Item, bool) {
	s, ok := f.written(items[0])
	from, okFrom := f.integer(items[1])
	many, okMany := f.integer(items[2])
	if !ok || !okFrom || !okMany {
		return api.Item{}, false
	}
	var b strings.Builder
	place := 0
	for _, r := range s {
		place++
		if from <= place && place < from+many {
			b.WriteRune(r)
		}
	}
	return textItem(b.String()), true
}

// ebv: is an item true that is the first one of so many?
func ebv(f *forest, items ...api.Item) (api.Item, bool) {
	x, many := items[0], items[1]
	if many.Kind != api.IsInt {
		return api.Item{}, false
	}
	switch {
	case x.Kind == api.IsNode:
		return boolItem(true), f.has(x)
	case many.N != 1:
		return api.Item{}, false
	case x.Kind == api.IsText:
		return boolItem(x.S != ""), true
	}
	return boolItem(x.N != 0), true
}

// holds: a number alone tells a place.
func holds(f *forest, items ...api.Item) (api.Item, bool) {
	x, many, place := items[0], items[1], items[2]
	if many.Kind != api.IsInt || place.Kind != api.IsInt {
		return api.Item{}, false
	}
	if x.Kind == api.IsInt && many.N == 1 {
		return boolItem(x.N == place.N), true
	}
	return ebv(f, x, many)
}
