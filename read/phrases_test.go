package read_test

import (
	"reflect"
	"strconv"
	"strings"
	"testing"

	"pleacher/api"
	"pleacher/read"
)

var (
	dot     = api.Phrase{Kind: api.Dot}
	root    = api.Phrase{Kind: api.Root}
	anyNode = api.Test{Kind: api.AnyNode}
	named   = api.Test{Kind: api.AnyNamed}
	below   = along(api.DescendantOrSelf, anyNode) // what // stands for
)

func lit(n int) api.Phrase { return api.Phrase{Kind: api.Lit, Item: api.Item{Kind: api.IsInt, N: n}} }

func text(s string) api.Phrase {
	return api.Phrase{Kind: api.Lit, Item: api.Item{Kind: api.IsText, S: s}}
}

func variable(name string) api.Phrase { return api.Phrase{Kind: api.Var, Name: name} }

func seq(l ...api.Phrase) api.Phrase { return api.Phrase{Kind: api.Seq, Args: l} }

func call(name string, l ...api.Phrase) api.Phrase {
	return api.Phrase{Kind: api.Call, Name: name, Args: l}
}

func binary(name string, x, y api.Phrase) api.Phrase {
	return api.Phrase{Kind: api.Binary, Name: name, Args: []api.Phrase{x, y}}
}

func minus(x api.Phrase) api.Phrase { return api.Phrase{Kind: api.Minus, Args: []api.Phrase{x}} }

func path(x api.Phrase, l ...api.Phrase) api.Phrase {
	for _, y := range l {
		x = api.Phrase{Kind: api.Path, Args: []api.Phrase{x, y}}
	}
	return x
}

func filter(l ...api.Phrase) api.Phrase { return api.Phrase{Kind: api.Filter, Args: l} }

func along(axis int, t api.Test) api.Phrase {
	return api.Phrase{Kind: api.Step, Axis: axis, Test: t}
}

func nameTest(s string) api.Test { return api.Test{Kind: api.NameTest, Name: s} }

func child(name string) api.Phrase { return along(api.Child, nameTest(name)) }

func construct(kind int, name string, x api.Phrase) api.Phrase {
	return api.Phrase{Kind: api.Make, N: kind, Name: name, Args: []api.Phrase{x}}
}

func conditional(x, y, z api.Phrase) api.Phrase {
	return api.Phrase{Kind: api.If, Args: []api.Phrase{x, y, z}}
}

func quantified(kind int, name string, x, y api.Phrase) api.Phrase {
	return api.Phrase{Kind: kind, Name: name, Args: []api.Phrase{x, y}}
}

func flwor(x api.Phrase, l ...api.Clause) api.Phrase {
	return api.Phrase{Kind: api.Flwor, Clauses: l, Args: []api.Phrase{x}}
}

func forIn(name, at string, x api.Phrase) api.Clause {
	return api.Clause{Kind: api.ForIn, Name: name, At: at, Expr: x}
}

func letBe(name string, x api.Phrase) api.Clause {
	return api.Clause{Kind: api.LetBe, Name: name, Expr: x}
}

func where(x api.Phrase) api.Clause { return api.Clause{Kind: api.Where, Expr: x} }

func orderBy(x api.Phrase, down bool) api.Clause {
	return api.Clause{Kind: api.OrderBy, Expr: x, Down: down}
}

// same phrases, in all fields? Lists without elements may be nil or not.
func same(a, b api.Phrase) bool {
	if len(a.Args) != len(b.Args) || len(a.Clauses) != len(b.Clauses) {
		return false
	}
	for i := range a.Args {
		if !same(a.Args[i], b.Args[i]) {
			return false
		}
	}
	for i := range a.Clauses {
		x, y := a.Clauses[i], b.Clauses[i]
		if !same(x.Expr, y.Expr) {
			return false
		}
		x.Expr, y.Expr = api.Phrase{}, api.Phrase{}
		if !reflect.DeepEqual(x, y) {
			return false
		}
	}
	a.Args, a.Clauses, b.Args, b.Clauses = nil, nil, nil, nil
	return reflect.DeepEqual(a, b)
}

// spelled: tokens as a query, with something between.
func spelled(l []api.Token, between string) string {
	var words []string
	for _, t := range l {
		switch t.Kind {
		case api.Number:
			words = append(words, strconv.Itoa(t.N))
		case api.Quoted:
			words = append(words, `"`+t.S+`"`)
		case api.Dollar:
			words = append(words, "$"+t.S)
		default:
			words = append(words, t.S)
		}
	}
	return strings.Join(words, between)
}

func cutOf(t *testing.T, s string) []api.Token {
	t.Helper()
	l, at, e := read.Cut(s)
	if e != api.OK {
		t.Fatalf("Cut(%q): %d at %d", s, e, at)
	}
	return l
}

type parsed struct {
	s    string
	want api.Phrase
}

func parseAll(t *testing.T, l []parsed) {
	t.Helper()
	for _, c := range l {
		if got, at, e := read.Parse(cutOf(t, c.s)); !same(got, c.want) || at != 0 || e != api.OK {
			t.Errorf("Parse(%q): %v %d %d, want %v", c.s, got, at, e, c.want)
		}
	}
}

type notParsed struct {
	s    string
	at   int
	want api.Errno
}

func refuse(t *testing.T, l []notParsed) {
	t.Helper()
	for _, c := range l {
		refuseTokens(t, cutOf(t, c.s), c.at, c.want)
	}
}

func refuseTokens(t *testing.T, l []api.Token, at int, want api.Errno) {
	t.Helper()
	if got, k, e := read.Parse(l); !same(got, api.Phrase{}) || k != at || e != want {
		t.Errorf("Parse(%.300s): %v %d at %d, want %d at %d", spelled(l, " "), got, e, k, want, at)
	}
}

const (
	form  = api.ErrForm
	short = api.ErrShort
	deep  = api.ErrDeep
	none  = api.ErrNone
)
