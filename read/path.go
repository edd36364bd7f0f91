package read

import (
	"strings"

	"pleacher/api"
)

// Axes, and tests of a kind, by their numbers.
var (
	axes = [...]string{
		api.Child:            "child",
		api.Descendant:       "descendant",
		api.DescendantOrSelf: "descendant-or-self",
		api.Self:             "self",
		api.Parent:           "parent",
		api.Ancestor:         "ancestor",
		api.AncestorOrSelf:   "ancestor-or-self",
		api.Following:        "following",
		api.Preceding:        "preceding",
		api.FollowingSibling: "following-sibling",
		api.PrecedingSibling: "preceding-sibling",
		api.Attribute:        "attribute",
	}
	kindTests = [...]string{
		api.AnyNode:  "node",
		api.TextTest: "text",
		api.CommTest: "comment",
	}
)

// axisOf a name; 0: there is none.
func axisOf(name string) int {
	for axis, s := range axes {
		if s == name {
			return axis
		}
	}
	return 0
}

// kindTestOf a name; 0: there is none.
func kindTestOf(name string) int {
	for kind, s := range kindTests {
		if s == name {
			return kind
		}
	}
	return 0
}

func (p *parser) path() api.Phrase {
	root := api.Phrase{Kind: api.Root}
	switch {
	case p.see(0) == mark("//"):
		return p.steps(root)
	case !p.skip(mark("/")):
		return p.steps(p.step())
	case p.stepBegins():
		return p.steps(pathOf(root, p.step()))
	}
	return root
}

// steps behind what is on their left.
func (p *parser) steps(left api.Phrase) api.Phrase {
	for {
		switch {
		case p.skip(mark("/")):
		case p.skip(mark("//")):
			left = pathOf(left, along(api.DescendantOrSelf, api.Test{Kind: api.AnyNode}))
		default:
			return left
		}
		left = pathOf(left, p.step())
	}
}

func pathOf(left, right api.Phrase) api.Phrase {
	return api.Phrase{Kind: api.Path, Args: []api.Phrase{left, right}}
}

func along(axis int, t api.Test) api.Phrase {
	return api.Phrase{Kind: api.Step, Axis: axis, Test: t}
}

func (p *parser) stepBegins() bool {
	switch t := p.see(0); t.Kind {
	case api.Word, api.Number, api.Quoted, api.Dollar:
		return true
	case api.Mark:
		return t.S == ".." || t.S == "." || t.S == "@" || t.S == "*" || t.S == "("
	}
	return false
}

// step, with the predicates behind it.
func (p *parser) step() api.Phrase {
	defer p.enter(p.stepBegins())()
	x := p.bareStep()
	if p.see(0) != mark("[") {
		return x
	}
	filter := api.Phrase{Kind: api.Filter, Args: []api.Phrase{x}}
	for p.skip(mark("[")) {
		filter.Args = append(filter.Args, p.list())
		p.want(mark("]"))
	}
	return filter
}

func (p *parser) bareStep() api.Phrase {
	switch {
	case p.see(0).Kind == api.Word && p.see(1) == mark("::"):
		return p.namedAxis()
	case p.skip(mark("@")):
		return along(api.Attribute, p.test())
	case p.skip(mark("..")):
		return along(api.Parent, api.Test{Kind: api.AnyNode})
	case p.childBegins():
		return along(api.Child, p.test())
	}
	return p.noStep()
}

func (p *parser) namedAxis() api.Phrase {
	axis := axisOf(p.see(0).S)
	if axis == 0 {
		p.fail(api.ErrNone)
		return api.Phrase{}
	}
	p.at += 2
	return along(axis, p.test())
}

// childBegins: does a test stand next, for the axis Child?
func (p *parser) childBegins() bool {
	t := p.see(0)
	switch {
	case t == mark("*"):
		return true
	case t.Kind != api.Word || p.makeBegins():
		return false
	case p.see(1) != mark("("):
		return true
	}
	return kindTestOf(t.S) != 0 && p.see(2) == mark(")")
}

func (p *parser) test() api.Test {
	if p.skip(mark("*")) {
		return api.Test{Kind: api.AnyNamed}
	}
	name := p.text(api.Word)
	kind := kindTestOf(name)
	if kind == 0 || !p.skip(mark("(")) {
		return api.Test{Kind: api.NameTest, Name: name}
	}
	p.want(mark(")"))
	return api.Test{Kind: kind}
}

// noStep: what stands where a step may stand, and is none.
func (p *parser) noStep() api.Phrase {
	switch t := p.see(0); {
	case t.Kind == api.Number:
		p.at++
		return api.Phrase{Kind: api.Lit, Item: api.Item{Kind: api.IsInt, N: t.N}}
	case t.Kind == api.Quoted:
		p.at++
		return api.Phrase{Kind: api.Lit, Item: api.Item{Kind: api.IsText, S: strings.Clone(t.S)}}
	case t.Kind == api.Dollar:
		return api.Phrase{Kind: api.Var, Name: p.text(api.Dollar)}
	case p.skip(mark(".")):
		return api.Phrase{Kind: api.Dot}
	case p.skip(mark("(")):
		return p.listUpTo(mark(")"))
	case p.makeBegins():
		return p.constructor()
	case t.Kind == api.Word && p.see(1) == mark("("):
		return p.call()
	}
	p.miss()
	return api.Phrase{}
}

// listUpTo a token that ends it; without one it is a Seq of nothing.
func (p *parser) listUpTo(end api.Token) api.Phrase {
	if p.skip(end) {
		return api.Phrase{Kind: api.Seq}
	}
	x := p.list()
	p.want(end)
	return x
}

func (p *parser) makeBegins() bool {
	switch p.see(0) {
	case word("element"), word("attribute"):
		return p.see(1).Kind == api.Word && p.see(2) == mark("{")
	case word("text"):
		return p.see(1) == mark("{")
	}
	return false
}

func (p *parser) constructor() api.Phrase {
	x := api.Phrase{Kind: api.Make}
	switch p.text(api.Word) {
	case "element":
		x.N, x.Name = api.Elem, p.text(api.Word)
	case "attribute":
		x.N, x.Name = api.Attr, p.text(api.Word)
	default:
		x.N = api.Text
	}
	p.want(mark("{"))
	x.Args = []api.Phrase{p.listUpTo(mark("}"))}
	return x
}

func (p *parser) call() api.Phrase {
	x := api.Phrase{Kind: api.Call, Name: p.text(api.Word)}
	p.want(mark("("))
	if p.skip(mark(")")) {
		return x
	}
	x.Args = p.singles()
	p.want(mark(")"))
	return x
}
