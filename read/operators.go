package read

import (
	"strings"

	"pleacher/api"
)

// How operators bind, from the loosest ones on.
const (
	loosest = iota
	conjoining
	comparing
	ranging
	adding
	multiplying
	uniting
	picking
	tightest // no operator between two binds so
)

type operator struct {
	name  string
	binds int
}

var operators = [...]operator{
	{"or", loosest},
	{"and", conjoining},
	{"=", comparing}, {"!=", comparing}, {"<", comparing}, {"<=", comparing}, {">", comparing}, {">=", comparing},
	{"is", comparing}, {"<<", comparing}, {">>", comparing},
	{"to", ranging},
	{"+", adding}, {"-", adding},
	{"*", multiplying}, {"div", multiplying}, {"mod", multiplying},
	{"|", uniting}, {"union", uniting},
	{"intersect", picking}, {"except", picking},
}

// binary: operators that bind so, between two of what binds more, from left to right.
func (p *parser) binary(binds int) api.Phrase {
	if binds == tightest {
		return p.minus()
	}
	x := p.binary(binds + 1)
	for p.operatorNext(binds) {
		name := strings.Clone(p.see(0).S)
		p.at++
		x = api.Phrase{Kind: api.Binary, Name: name, Args: []api.Phrase{x, p.binary(binds + 1)}}
		if binds == comparing || binds == ranging {
			break
		}
	}
	return x
}

func (p *parser) operatorNext(binds int) bool {
	t := p.see(0)
	if t.Kind != api.Word && t.Kind != api.Mark {
		return false
	}
	for _, o := range operators {
		if o.name == t.S {
			return o.binds == binds
		}
	}
	return false
}

func (p *parser) minus() api.Phrase {
	if p.see(0) != mark("-") {
		return p.path()
	}
	defer p.enter(true)()
	p.skip(mark("-")) // where it is too deep it stays: its place is told
	return api.Phrase{Kind: api.Minus, Args: []api.Phrase{p.minus()}}
}
