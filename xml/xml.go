// Package xml: documents as text, and as events.
package xml

import (
	"strings"
	"unicode/utf8"

	"pleacher/api"
)

// CheckName: may it be?
func CheckName(s string) api.Errno {
	if len(s) < 1 || len(s) > api.MaxName {
		return api.ErrSize
	}
	for i := range len(s) {
		if !isNameByte(s[i], i == 0) {
			return api.ErrName
		}
	}
	return api.OK
}

func isNameByte(c byte, first bool) bool {
	switch {
	case 'a' <= c && c <= 'z', 'A' <= c && c <= 'Z', c == '_':
		return true
	case '0' <= c && c <= '9', c == '-', c == '.':
		return !first
	}
	return false
}

// CheckText: may it be a value?
func CheckText(s string) api.Errno {
	if len(s) > api.MaxText {
		return api.ErrSize
	}
	if !utf8.ValidString(s) {
		return api.ErrForm
	}
	for i := range len(s) {
		if c := s[i]; c < ' ' && c != '\t' && c != '\n' {
			return api.ErrForm
		}
	}
	return api.OK
}

// Check events: are they a document?
func Check(l []api.Event) api.Errno {
	if len(l) > api.MaxEvents {
		return api.ErrSize
	}
	open := 0
	for i, x := range l {
		if e := checkEvent(l[:i], x, open); e != api.OK {
			return e
		}
		switch x.Kind {
		case api.Start:
			open++
		case api.End:
			open--
		}
	}
	if len(l) == 0 || open > 0 {
		return api.ErrShort
	}
	return api.OK
}

// checkEvent asks in the order in which errors go ahead of each other: no later question may be put first.
func checkEvent(ahead []api.Event, x api.Event, open int) api.Errno {
	if x.Kind < api.Start || x.Kind > api.End {
		return api.ErrKind
	}
	if open == 0 && (x.Kind != api.Start || len(ahead) > 0) {
		return api.ErrForm
	}
	if e := checkNameOf(x); e != api.OK {
		return e
	}
	if e := checkValueOf(x); e != api.OK {
		return e
	}
	switch x.Kind {
	case api.Start:
		if open >= api.MaxDepth {
			return api.ErrDeep
		}
	case api.Attr:
		return checkAttr(ahead, x)
	case api.Text:
		if x.Value == "" || ahead[len(ahead)-1].Kind == api.Text {
			return api.ErrForm
		}
	case api.Comment:
		if strings.Contains(x.Value, "--") || strings.HasSuffix(x.Value, "-") {
			return api.ErrForm
		}
	}
	return api.OK
}

func checkNameOf(x api.Event) api.Errno {
	if inTag(x) {
		return CheckName(x.Name)
	}
	if x.Name != "" {
		return api.ErrForm
	}
	return api.OK
}

func checkValueOf(x api.Event) api.Errno {
	if x.Kind != api.Start && x.Kind != api.End {
		return CheckText(x.Value)
	}
	if x.Value != "" {
		return api.ErrForm
	}
	return api.OK
}

// checkAttr is asked only while an element is open: there is an event ahead.
func checkAttr(ahead []api.Event, x api.Event) api.Errno {
	last := len(ahead) - 1
	if !inTag(ahead[last]) {
		return api.ErrForm
	}
	for i := last; ahead[i].Kind == api.Attr; i-- {
		if ahead[i].Name == x.Name {
			return api.ErrTwice
		}
	}
	return api.OK
}

// inTag: is it one of those that stand within the tag with which an element begins?
func inTag(x api.Event) bool { return x.Kind == api.Start || x.Kind == api.Attr }
