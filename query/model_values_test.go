package query_test

import (
	"slices"
	"strconv"
	"strings"
	"unicode/utf8"

	"pleacher/api"
	"pleacher/rel"
)

func (m *meaning) isTrue(l list) bool {
	if len(l) == 0 || l[0].Kind == api.IsNode {
		return len(l) > 0
	}
	valued(len(l) == 1)
	return l[0].N != 0 || l[0].S != ""
}

// textOf a node: P2.4.
func (m *meaning) textOf(n int) string {
	x := m.l[n]
	s := x.Value
	for _, y := range m.l[n+1 : n+1+x.Size] {
		if y.Kind == api.Text {
			s += y.Value
		}
	}
	return s
}

func (m *meaning) data(l list) list {
	all := slices.Clone(l)
	for i, x := range all {
		if x.Kind == api.IsNode {
			all[i] = text(m.textOf(x.N))
		}
	}
	return all
}

// str: a sequence of one item at most, as a string.
func (m *meaning) str(l list) string {
	valued(len(l) <= 1)
	if len(l) == 0 {
		return ""
	}
	d := m.data(l)[0]
	switch d.Kind {
	case api.IsInt:
		return strconv.Itoa(d.N)
	case api.IsBool:
		return strconv.FormatBool(d.N == 1)
	}
	return d.S
}

func isNumber(s string) (int, bool) {
	n, err := strconv.ParseInt(s, 10, 64)
	return int(n), err == nil && strconv.FormatInt(n, 10) == s && n >= -api.MaxInt && n <= api.MaxInt
}

// integers of all items.
func (m *meaning) integers(l list) []int {
	var all []int
	for _, d := range m.data(l) {
		n := d.N
		if d.Kind == api.IsText {
			var ok bool
			n, ok = isNumber(d.S)
			valued(ok)
		}
		all = append(all, n)
	}
	return all
}

func number(n int) list {
	valued(n >= -api.MaxInt && n <= api.MaxInt)
	return list{num(n)}
}

func (m *meaning) function(name string, args ...list) list {
	a := args[0]
	switch name {
	case "count":
		return number(len(a))
	case "empty", "exists":
		return list{truth((name == "empty") == (len(a) == 0))}
	case "boolean", "not":
		return list{truth((name == "boolean") == m.isTrue(a))}
	case "and", "or":
		x, y := m.isTrue(a), m.isTrue(args[1])
		return list{truth(x && y || name == "or" && (x || y))}
	case "sum", "min", "max":
		return m.aggregate(name, m.integers(a))
	case "data":
		return m.data(a)
	case "distinct-values":
		var all list
		for _, d := range m.data(a) {
			if !slices.Contains(all, d) {
				all = append(all, d)
			}
		}
		return all
	case "reverse":
		a = slices.Clone(a)
		slices.Reverse(a)
		return a
	case "|", "union", "intersect", "except":
		return m.sets(name, m.places(a), m.places(args[1]))
	case "=", "!=", "<", "<=", ">", ">=":
		return list{truth(m.some(name, m.data(a), m.data(args[1])))}
	}
	for _, l := range args {
		valued(len(l) <= 1)
	}
	if x, ok := m.ofTexts(name, args); ok {
		return x
	}
	for _, l := range args {
		if len(l) == 0 {
			return nil
		}
	}
	if name == "is" || name == "<<" || name == ">>" {
		x, y := m.places(a)[0], m.places(args[1])[0]
		return list{truth(name == "is" && x == y || name == "<<" && x < y || name == ">>" && x > y)}
	}
	return m.ofNumbers(name, m.integers(slices.Concat(args...)))
}

func (m *meaning) aggregate(name string, numbers []int) list {
	switch {
	case name == "sum":
		sum := 0
		for _, n := range numbers {
			sum = number(sum + n)[0].N
		}
		return number(sum)
	case len(numbers) == 0:
		return nil
	case name == "min":
		return number(slices.Min(numbers))
	}
	return number(slices.Max(numbers))
}

func (m *meaning) sets(name string, a, b []int) list {
	switch name {
	case "intersect":
		return m.set(a, func(n int) bool { return slices.Contains(b, n) })
	case "except":
		return m.set(a, func(n int) bool { return !slices.Contains(b, n) })
	}
	return m.set(slices.Concat(a, b), func(int) bool { return true })
}

func (m *meaning) some(name string, a, b list) bool {
	for _, x := range a {
		for _, y := range b {
			if compared(name, x, y) {
				return true
			}
		}
	}
	return false
}

func compared(name string, x, y api.Item) bool {
	if x.Kind == api.IsText && y.Kind == api.IsInt {
		if n, ok := isNumber(x.S); ok {
			x = num(n)
		}
	}
	if y.Kind == api.IsText && x.Kind == api.IsInt {
		if n, ok := isNumber(y.S); ok {
			y = num(n)
		}
	}
	if x.Kind != y.Kind {
		return name == "!="
	}
	switch c := rel.Compare(x, y); name {
	case "=":
		return c == 0
	case "!=":
		return c != 0
	case "<":
		return c < 0
	case "<=":
		return c <= 0
	case ">":
		return c > 0
	}
	return rel.Compare(x, y) >= 0
}

// ofTexts: functions of which at least one argument is a string, or a node's name.
func (m *meaning) ofTexts(name string, args []list) (list, bool) {
	switch name {
	case "string":
		return list{text(m.str(args[0]))}, true
	case "string-length":
		return number(utf8.RuneCountInString(m.str(args[0]))), true
	case "name":
		if len(args[0]) == 0 {
			return list{text("")}, true
		}
		return list{text(m.l[m.places(args[0])[0]].Name)}, true
	case "concat":
		s := m.str(args[0]) + m.str(args[1])
		valued(len(s) <= api.MaxText)
		return list{text(s)}, true
	case "contains":
		return list{truth(strings.Contains(m.str(args[0]), m.str(args[1])))}, true
	case "starts-with":
		return list{truth(strings.HasPrefix(m.str(args[0]), m.str(args[1])))}, true
	case "substring":
		if len(args[1]) == 0 || len(args[2]) == 0 {
			return nil, true
		}
		from, many := m.integers(args[1])[0], m.integers(args[2])[0]
		s := ""
		for i, r := range []rune(m.str(args[0])) {
			if i+1 >= from && i+1 < from+many {
				s += string(r)
			}
		}
		return list{text(s)}, true
	}
	return nil, false
}

func (m *meaning) ofNumbers(name string, n []int) list {
	switch name {
	case "integer":
		return number(n[0])
	case "neg":
		return number(-n[0])
	case "+":
		return number(n[0] + n[1])
	case "-":
		return number(n[0] - n[1])
	case "*":
		valued(n[0] == 0 || n[0]*n[1]/n[0] == n[1]) // else it has wrapped round
		return number(n[0] * n[1])
	case "div":
		valued(n[1] != 0)
		return number(n[0] / n[1])
	case "mod":
		valued(n[1] != 0)
		return number(n[0] % n[1])
	}
	valued(name == "to" && n[1]-n[0]+1 <= api.MaxSpan)
	var all list
	for i := n[0]; i <= n[1]; i++ {
		all = append(all, num(i))
	}
	return all
}
