package run

import (
	"slices"
	"strings"
	"unicode/utf8"

	"pleacher/api"
	"pleacher/rel"
)

// value of a function, of items over nodes; false: it has none.
type value func(f *forest, items ...api.Item) (api.Item, bool)

// function of items: of how many, and its value.
type function struct {
	args  int
	value value
}

func functions() map[string]function {
	return map[string]function{
		"data":      {1, of((*forest).data)},
		"node":      {1, of((*forest).node)},
		"name":      {1, of((*forest).name)},
		"string":    {1, ofTexts(func(s ...string) (api.Item, bool) { return textItem(s[0]), true })},
		"integer":   {1, ofIntegers(func(n ...int) (int, bool) { return n[0], true })},
		"one":       {1, of((*forest).one)},
		"neg":       {1, ofIntegers(func(n ...int) (int, bool) { return -n[0], true })},
		"+":         {2, ofIntegers(func(n ...int) (int, bool) { return n[0] + n[1], true })},
		"-":         {2, ofIntegers(func(n ...int) (int, bool) { return n[0] - n[1], true })},
		"*":         {2, ofIntegers(product)},
		"div":       {2, ofIntegers(quotient)},
		"mod":       {2, ofIntegers(remainder)},
		"span":      {2, ofIntegers(span)},
		"length":    {1, ofTexts(func(s ...string) (api.Item, bool) { return intItem(utf8.RuneCountInString(s[0])), true })},
		"concat":    {2, ofTexts(concat)},
		"contains":  {2, ofTexts(func(s ...string) (api.Item, bool) { return boolItem(strings.Contains(s[0], s[1])), true })},
		"starts":    {2, ofTexts(func(s ...string) (api.Item, bool) { return boolItem(strings.HasPrefix(s[0], s[1])), true })},
		"substring": {3, substring},
		"=":         {2, compared(false, func(order int) bool { return order == 0 })},
		"!=":        {2, compared(true, func(order int) bool { return order != 0 })},
		"<":         {2, compared(false, func(order int) bool { return order < 0 })},
		"<=":        {2, compared(false, func(order int) bool { return order <= 0 })},
		">":         {2, compared(false, func(order int) bool { return order > 0 })},
		">=":        {2, compared(false, func(order int) bool { return order >= 0 })},
		"is":        {2, ofNodes(func(a, b int) bool { return a == b })},
		"<<":        {2, ofNodes(func(a, b int) bool { return a < b })},
		">>":        {2, ofNodes(func(a, b int) bool { return a > b })},
		"not":       {1, ofTruths(func(is ...bool) bool { return !is[0] })},
		"and":       {2, ofTruths(func(is ...bool) bool { return is[0] && is[1] })},
		"or":        {2, ofTruths(func(is ...bool) bool { return is[0] || is[1] })},
		"ebv":       {2, ebv},
		"holds":     {3, holds},
	}
}

// apply a function to each row. A value that may not be an item is none.
func (f *forest) apply(r api.Rel, name string, v value, cols ...string) (api.Rel, api.Errno) {
	made := api.Rel{Cols: slices.Concat(r.Cols, []string{name}), Rows: make([][]api.Item, 0, len(r.Rows))}
	e := each(r, func(row []api.Item, items ...api.Item) api.Errno {
		x, ok := v(f, items...)
		if !ok || rel.CheckItem(x) != api.OK {
			return api.ErrValue
		}
		made.Rows = append(made.Rows, slices.Concat(row, []api.Item{x}))
		return api.OK
	}, cols...)
	if e != api.OK {
		return api.Rel{}, e
	}
	return made, api.OK
}

// of one item.
func of(v func(f *forest, x api.Item) (api.Item, bool)) value {
	return func(f *forest, items ...api.Item) (api.Item, bool) { return v(f, items[0]) }
}

// ofIntegers: all items as integers; so is the value, if an item may be so great.
func ofIntegers(v func(n ...int) (int, bool)) value {
	return func(f *forest, items ...api.Item) (api.Item, bool) {
		numbers := make([]int, len(items))
		for i, x := range items {
			n, ok := f.integer(x)
			if !ok {
				return api.Item{}, false
			}
			numbers[i] = n
		}
		n, ok := v(numbers...)
		return intItem(n), ok
	}
}

// ofTexts: all items as strings.
func ofTexts(v func(s ...string) (api.Item, bool)) value {
	return func(f *forest, items ...api.Item) (api.Item, bool) {
		texts := make([]string, len(items))
		for i, x := range items {
			s, ok := f.written(x)
			if !ok {
				return api.Item{}, false
			}
			texts[i] = s
		}
		return v(texts...)
	}
}

// ofNodes: two nodes that are there.
func ofNodes(v func(a, b int) bool) value {
	return func(f *forest, items ...api.Item) (api.Item, bool) {
		a, b := items[0], items[1]
		return boolItem(v(a.N, b.N)), f.has(a) && f.has(b)
	}
}

// ofTruths: what is true or false.
func ofTruths(v func(is ...bool) bool) value {
	return func(_ *forest, items ...api.Item) (api.Item, bool) {
		truths := make([]bool, len(items))
		for i, x := range items {
			if x.Kind != api.IsBool {
				return api.Item{}, false
			}
			truths[i] = x.N != 0
		}
		return boolItem(v(truths...)), true
	}
}

// compared: the data of two items; unlike: what is said of such that can't be compared.
func compared(unlike bool, says func(order int) bool) value {
	return func(f *forest, items ...api.Item) (api.Item, bool) {
		a, ok := f.data(items[0])
		b, okToo := f.data(items[1])
		if !ok || !okToo {
			return api.Item{}, false
		}
		a, b = asOther(a, b), asOther(b, a)
		if a.Kind != b.Kind {
			return boolItem(unlike), true
		}
		return boolItem(says(rel.Compare(a, b))), true
	}
}

// asOther: beside a number a text counts as a number, if it is one.
func asOther(x, other api.Item) api.Item {
	if x.Kind != api.IsText || other.Kind != api.IsInt {
		return x
	}
	n, ok := parseInteger(x.S)
	if !ok {
		return x
	}
	return intItem(n)
}
