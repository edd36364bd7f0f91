package xml

import (
	"strings"

	"pleacher/api"
)

// parser: a text, the place up to which it is read, and what was found there.
type parser struct {
	s      string
	at     int
	events []api.Event
	open   []string // names of the elements that are open
}

// Parse a document.
func Parse(s string) ([]api.Event, api.Errno) {
	if len(s) > api.MaxXml {
		return nil, api.ErrSize
	}
	p := parser{s: s}
	if e := p.document(); e != api.OK {
		return nil, e
	}
	if e := Check(p.events); e != api.OK {
		return nil, e
	}
	return p.events, api.OK
}

func (p *parser) document() api.Errno {
	if e := p.expect("<"); e != api.OK {
		return e
	}
	if e := p.start(); e != api.OK {
		return e
	}
	for len(p.open) > 0 {
		if e := p.content(); e != api.OK {
			return e
		}
	}
	if p.at < len(p.s) {
		return api.ErrForm
	}
	return api.OK
}

// content: the next thing within an element, or the element's end.
func (p *parser) content() api.Errno {
	switch {
	case !p.skip("<"):
		return p.text()
	case p.skip("/"):
		return p.end()
	case p.skip("!"):
		return p.comment()
	}
	return p.start()
}

// start: what stands behind the < of a Start.
func (p *parser) start() api.Errno {
	name, e := p.name()
	if e != api.OK {
		return e
	}
	p.add(api.Start, name, "")
	for {
		blank := p.blanks()
		switch {
		case p.skip(">"):
			p.open = append(p.open, name)
			return api.OK
		case p.skip("/"):
			p.add(api.End, "", "")
			return p.expect(">")
		case !blank:
			return p.stuck()
		}
		if e := p.attr(); e != api.OK {
			return e
		}
	}
}

func (p *parser) attr() api.Errno {
	name, e := p.name()
	if e != api.OK {
		return e
	}
	if e := p.expect(`="`); e != api.OK {
		return e
	}
	value, e := p.value('"')
	if e != api.OK {
		return e
	}
	p.add(api.Attr, name, value)
	return p.expect(`"`)
}

func (p *parser) text() api.Errno {
	value, e := p.value('<')
	if e != api.OK {
		return e
	}
	p.add(api.Text, "", value)
	return api.OK
}

// comment: what stands behind the <! of a Comment. It goes as far as the first -->; Check tells of a - too many in it.
func (p *parser) comment() api.Errno {
	if e := p.expect("--"); e != api.OK {
		return e
	}
	value, _, found := strings.Cut(p.s[p.at:], "-->")
	if !found {
		return api.ErrShort
	}
	p.at += len(value) + len("-->")
	p.add(api.Comment, "", strings.Clone(value))
	return api.OK
}

// end: what stands behind the </ of an End. Its name is held against the element's only when it is whole.
func (p *parser) end() api.Errno {
	name, e := p.name()
	if e != api.OK {
		return e
	}
	p.blanks()
	if e := p.expect(">"); e != api.OK {
		return e
	}
	last := len(p.open) - 1
	if name != p.open[last] {
		return api.ErrForm
	}
	p.open = p.open[:last]
	p.add(api.End, "", "")
	return api.OK
}

// name: as many bytes as may stand in one, however many; Check tells of those that are too long.
func (p *parser) name() (string, api.Errno) {
	from := p.at
	for p.at < len(p.s) && isNameByte(p.s[p.at], p.at == from) {
		p.at++
	}
	if p.at == from {
		return "", p.stuck()
	}
	return strings.Clone(p.s[from:p.at]), api.OK
}

// value: what stands ahead of the byte stop, with what is escaped as what it means.
func (p *parser) value(stop byte) (string, api.Errno) {
	var b strings.Builder
	for p.at < len(p.s) {
		c := p.s[p.at]
		switch c {
		case stop:
			return b.String(), api.OK
		case '<':
			return "", api.ErrForm
		case '&':
			plain, e := p.escaped()
			if e != api.OK {
				return "", e
			}
			b.WriteByte(plain)
		default:
			b.WriteByte(c)
			p.at++
		}
	}
	return "", api.ErrShort
}

func (p *parser) escaped() (byte, api.Errno) {
	rest := p.s[p.at:]
	e := api.ErrForm
	for _, x := range escapes {
		if strings.HasPrefix(rest, x.escaped) {
			p.at += len(x.escaped)
			return x.plain, api.OK
		}
		if strings.HasPrefix(x.escaped, rest) {
			e = api.ErrShort
		}
	}
	return 0, e
}

func (p *parser) add(kind int, name, value string) {
	p.events = append(p.events, api.Event{Kind: kind, Name: name, Value: value})
}

// blanks are passed; were there some?
func (p *parser) blanks() bool {
	from := p.at
	for p.skip(" ") || p.skip("\n") || p.skip("\t") {
	}
	return p.at > from
}

// skip a text, if it stands next.
func (p *parser) skip(s string) bool {
	if !strings.HasPrefix(p.s[p.at:], s) {
		return false
	}
	p.at += len(s)
	return true
}

// expect a text, byte by byte, so that one that ends within it is told as too short.
func (p *parser) expect(s string) api.Errno {
	for i := range len(s) {
		if !p.skip(s[i : i+1]) {
			return p.stuck()
		}
	}
	return api.OK
}

// stuck: nothing that may stand here does; where the text ends it might still come.
func (p *parser) stuck() api.Errno {
	if p.at == len(p.s) {
		return api.ErrShort
	}
	return api.ErrForm
}
