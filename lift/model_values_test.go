package lift_test

import (
	"cmp"
	"fmt"
	"slices"
	"strconv"
	"strings"
	"unicode/utf8"

	"pleacher/api"
	"pleacher/rel"
	"pleacher/store"
)

// Functions of items, as P7.4 to P7.6 say, and elements that are made, as P7.8 says.

func bounded(n int) bool { return -api.MaxInt <= n && n <= api.MaxInt }

func (m *model) data(x api.Item) api.Item {
	if x.Kind != api.IsNode {
		return x
	}
	s, e := store.Text(m.l, x.N)
	valued(e == api.OK && len(s) <= api.MaxText)
	return text(s)
}

func (m *model) str(x api.Item) string {
	d := m.data(x)
	switch d.Kind {
	case api.IsInt:
		return fmt.Sprint(d.N)
	case api.IsBool:
		return fmt.Sprint(d.N == 1)
	}
	return d.S
}

func isNumber(s string) bool {
	n, err := strconv.ParseInt(s, 10, 64)
	return err == nil && fmt.Sprint(n) == s && bounded(int(n))
}

func (m *model) integer(x api.Item) int {
	d := m.data(x)
	if d.Kind != api.IsText {
		return d.N
	}
	valued(isNumber(d.S))
	n, _ := strconv.Atoi(d.S)
	return n
}

func (m *model) value(name string, x list) list {
	switch name {
	case "string":
		return list{text(m.str(x[0]))}
	case "name":
		valued(x[0].Kind == api.IsNode)
		return list{text(m.l[x[0].N].Name)}
	case "length":
		return list{num(utf8.RuneCountInString(m.str(x[0])))}
	case "concat":
		s := m.str(x[0]) + m.str(x[1])
		valued(len(s) <= api.MaxText)
		return list{text(s)}
	case "contains":
		return list{truth(strings.Contains(m.str(x[0]), m.str(x[1])))}
	case "starts":
		return list{truth(strings.HasPrefix(m.str(x[0]), m.str(x[1])))}
	case "substring":
		return list{text(cut(m.str(x[0]), m.integer(x[1]), m.integer(x[2])))}
	case "is", "<<", ">>":
		valued(x[0].Kind == api.IsNode && x[1].Kind == api.IsNode)
		return list{truth(name == "is" && x[0] == x[1] || name == "<<" && x[0].N < x[1].N || name == ">>" && x[0].N > x[1].N)}
	case "integer":
		return list{num(m.integer(x[0]))}
	case "neg":
		return list{num(-m.integer(x[0]))}
	}
	return reckoned(name, m.integer(x[0]), m.integer(x[1]))
}

func cut(s string, from, many int) string {
	made := ""
	for i, r := range []rune(s) {
		if i+1 >= from && i+1 < from+many {
			made += string(r)
		}
	}
	return made
}

func reckoned(name string, a, b int) list {
	n := 0
	switch name {
	case "+":
		n = a + b
	case "-":
		n = a - b
	case "*":
		valued(a == 0 || b == 0 || float64(a)*float64(b) < 2e12 && float64(a)*float64(b) > -2e12)
		n = a * b
	case "div":
		valued(b != 0)
		n = a / b
	case "mod":
		valued(b != 0)
		n = a - a/b*b
	case "to":
		var l list
		valued(b-a+1 <= api.MaxSpan)
		for i := a; i <= b; i++ {
			l = append(l, num(i))
		}
		return l
	}
	valued(bounded(n))
	return list{num(n)}
}

func (m *model) compared(name string, a, b api.Item) bool {
	switch {
	case a.Kind == b.Kind:
		return said(name, rel.Compare(a, b))
	case a.Kind == api.IsInt && b.Kind == api.IsText && isNumber(b.S):
		return said(name, cmp.Compare(a.N, m.integer(b)))
	case a.Kind == api.IsText && b.Kind == api.IsInt && isNumber(a.S):
		return said(name, cmp.Compare(m.integer(a), b.N))
	}
	return name == "!="
}

// said by a comparison of two in some order.
func said(name string, order int) bool {
	return strings.Contains([]string{" < <= != ", " = <= >= ", " > >= != "}[order+1], " "+name+" ")
}

func (m *model) ebv(x api.Item, many int) bool {
	if x.Kind == api.IsNode {
		return true
	}
	valued(many == 1)
	return x.S != "" || x.N != 0
}

func (m *model) holds(x api.Item, many int, place api.Item) bool {
	valued(place.Kind == api.IsInt)
	if x.Kind == api.IsInt && many == 1 {
		return x == place
	}
	return m.ebv(x, many)
}

func (m *model) makeElem(name string, l list) {
	top, was := len(m.l), slices.Clone(m.l)
	m.l = append(m.l, api.Node{Kind: api.Elem, Name: name, Parent: -1})
	s := ""
	flush := func() {
		valued(len(s) <= api.MaxText)
		if s != "" {
			m.l = append(m.l, api.Node{Kind: api.Text, Value: s, Level: 1, Parent: top})
		}
		s = ""
	}
	for i, x := range l {
		if x.Kind != api.IsNode {
			if i > 0 && l[i-1].Kind != api.IsNode {
				s += " "
			}
			s += m.str(x)
			continue
		}
		n := was[x.N]
		valued(n.Kind != api.Doc)
		if n.Kind == api.Text {
			s += n.Value
			continue
		}
		if n.Kind == api.Attr {
			for _, y := range l[:i] {
				valued(y.Kind == api.IsNode && was[y.N].Kind == api.Attr && was[y.N].Name != n.Name)
			}
		}
		flush()
		var e api.Errno
		m.l, e = store.Copy(was, x.N, m.l, top)
		valued(e == api.OK)
	}
	flush()
	m.l[top].Size = len(m.l) - 1 - top
}
