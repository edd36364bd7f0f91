package read_test

import (
	"slices"
	"strings"
	"testing"

	"pleacher/api"
	"pleacher/read"
)

const (
	least = -1 << 63
	most  = 1<<63 - 1
)

var (
	longest = strings.Repeat("a", api.MaxName) // a word
	tooLong = longest + "a"
)

func tokens(l ...api.Token) []api.Token { return l }
func word(s string) api.Token           { return api.Token{Kind: api.Word, S: s} }
func number(n int) api.Token            { return api.Token{Kind: api.Number, N: n} }
func quoted(s string) api.Token         { return api.Token{Kind: api.Quoted, S: s} }
func dollar(s string) api.Token         { return api.Token{Kind: api.Dollar, S: s} }
func mark(s string) api.Token           { return api.Token{Kind: api.Mark, S: s} }

type cut struct {
	s    string
	want []api.Token
}

func cutAll(t *testing.T, l []cut) {
	t.Helper()
	for _, c := range l {
		if got, at, e := read.Cut(c.s); !slices.Equal(got, c.want) || at != 0 || e != api.OK {
			t.Errorf("Cut(%q): %v %d %d, want %v", c.s, got, at, e, c.want)
		}
	}
}

type noCut struct {
	s    string
	at   int
	want api.Errno
}

func refuseCuts(t *testing.T, l []noCut) {
	t.Helper()
	for _, c := range l {
		if got, at, e := read.Cut(c.s); len(got) > 0 || at != c.at || e != c.want {
			t.Errorf("Cut(%.60q): %v %d %d, want %d at %d", c.s, got, at, e, c.want, c.at)
		}
	}
}

// P5.1
func TestWords(t *testing.T) {
	cutAll(t, []cut{
		{"a", tokens(word("a"))},
		{"z", tokens(word("z"))},
		{"A", tokens(word("A"))},
		{"Z", tokens(word("Z"))},
		{"_", tokens(word("_"))},
		{"aZ_09-", tokens(word("aZ_09-"))},
		{"a--b", tokens(word("a--b"))},
		{"_-1", tokens(word("_-1"))},
		{"a-1 - 1", tokens(word("a-1"), mark("-"), number(1))},
		{"a.b", tokens(word("a"), mark("."), word("b"))},
		{"a:=b", tokens(word("a"), mark(":="), word("b"))},
		{"1a", tokens(number(1), word("a"))},
		{"-a", tokens(mark("-"), word("a"))},
		{longest, tokens(word(longest))},
		{"for at or", tokens(word("for"), word("at"), word("or"))},
		{" \n\ta\t\n b ", tokens(word("a"), word("b"))},
		{"", nil},
		{" \n\t", nil},
	})
	refuseCuts(t, []noCut{
		{tooLong, 0, api.ErrName},
		{"a " + tooLong, 2, api.ErrName},
		{longest + "-", 0, api.ErrName},
		{longest + "0 $", 0, api.ErrName},
		{"aé", 1, api.ErrForm},
		{"é", 0, api.ErrForm},
		{"a\rb", 1, api.ErrForm},
		{"a\x00", 1, api.ErrForm},
		{"a\v", 1, api.ErrForm},
		{"a\u00a0b", 1, api.ErrForm},
	})
}

var allMarks = strings.Fields(`:: // .. := != <= >= << >> / ( ) [ ] { } , . @ * = < > + - |`)

// P5.2
func TestMarks(t *testing.T) {
	for _, m := range allMarks {
		cutAll(t, []cut{{m, tokens(mark(m))}, {" " + m + "a", tokens(mark(m), word("a"))}, {"1" + m, tokens(number(1), mark(m))}})
	}
	cutAll(t, []cut{
		{"///", tokens(mark("//"), mark("/"))},
		{"/ //", tokens(mark("/"), mark("//"))},
		{"...", tokens(mark(".."), mark("."))},
		{"....", tokens(mark(".."), mark(".."))},
		{"<<<", tokens(mark("<<"), mark("<"))},
		{"<<=", tokens(mark("<<"), mark("="))},
		{"<=>", tokens(mark("<="), mark(">"))},
		{">>=", tokens(mark(">>"), mark("="))},
		{">=>", tokens(mark(">="), mark(">"))},
		{"<>", tokens(mark("<"), mark(">"))},
		{"==", tokens(mark("="), mark("="))},
		{"=<", tokens(mark("="), mark("<"))},
		{"< =", tokens(mark("<"), mark("="))},
		{"::=", tokens(mark("::"), mark("="))},
		{"!==", tokens(mark("!="), mark("="))},
		{"--", tokens(mark("-"), mark("-"))},
		{"||", tokens(mark("|"), mark("|"))},
		{"**", tokens(mark("*"), mark("*"))},
		{"@@", tokens(mark("@"), mark("@"))},
		{"/..", tokens(mark("/"), mark(".."))},
	})
	refuseCuts(t, []noCut{
		{":", 0, api.ErrForm}, {"a:b", 1, api.ErrForm}, {": :", 0, api.ErrForm}, {":::", 2, api.ErrForm},
		{"!", 0, api.ErrForm}, {"!!=", 0, api.ErrForm}, {"! =", 0, api.ErrForm},
		{"1 # 2", 2, api.ErrForm}, {"'a'", 0, api.ErrForm}, {";", 0, api.ErrForm}, {"a?", 1, api.ErrForm},
		{"&", 0, api.ErrForm}, {"\\", 0, api.ErrForm}, {"^", 0, api.ErrForm}, {"~", 0, api.ErrForm}, {"`", 0, api.ErrForm},
		{"%", 0, api.ErrForm}, {"\xff", 0, api.ErrForm}, {"\x7f", 0, api.ErrForm},
	})
}

// P5.3: tokens of all kinds.
func TestCut(t *testing.T) {
	cutAll(t, []cut{
		{"//a[1]", tokens(mark("//"), word("a"), mark("["), number(1), mark("]"))},
		{"0", tokens(number(0))},
		{"007", tokens(number(7))},
		{"12 34", tokens(number(12), number(34))},
		{"1-2", tokens(number(1), mark("-"), number(2))},
		{"1.5", tokens(number(1), mark("."), number(5))},
		{"1..2", tokens(number(1), mark(".."), number(2))},
		{"1099511627776", tokens(number(api.MaxInt))},
		{"1099511627775", tokens(number(api.MaxInt - 1))},
		{strings.Repeat("0", 900) + "1099511627776", tokens(number(api.MaxInt))},
		{`""`, tokens(quoted(""))},
		{`"a b"`, tokens(quoted("a b"))},
		{`"a""b"`, tokens(quoted("a"), quoted("b"))},
		{"\" \n\t$1//'\\é\u20ac#\x7f\"", tokens(quoted(" \n\t$1//'\\é\u20ac#\x7f"))},
		{`a"b"1`, tokens(word("a"), quoted("b"), number(1))},
		{"$a", tokens(dollar("a"))},
		{"$_-1$b", tokens(dollar("_-1"), dollar("b"))},
		{"$x-1", tokens(dollar("x-1"))},
		{"$x - 1", tokens(dollar("x"), mark("-"), number(1))},
		{"$" + longest, tokens(dollar(longest))},
		{"1$a", tokens(number(1), dollar("a"))},
		{"for $x in //a where $x/@k > 1 return $x", tokens(
			word("for"), dollar("x"), word("in"), mark("//"), word("a"), word("where"), dollar("x"), mark("/"), mark("@"), word("k"),
			mark(">"), number(1), word("return"), dollar("x"))},
	})
}

// P5.3: what is wrong, and where it begins.
func TestCutWrong(t *testing.T) {
	refuseCuts(t, []noCut{
		{"$", 0, api.ErrName}, {"a $", 2, api.ErrName}, {"$ x", 0, api.ErrName}, {"$1", 0, api.ErrName}, {"$-a", 0, api.ErrName},
		{"$$a", 0, api.ErrName}, {`$"a"`, 0, api.ErrName}, {"$é", 0, api.ErrName}, {"$\x00", 0, api.ErrName},
		{"$" + tooLong, 0, api.ErrName}, {"1\n$" + tooLong, 2, api.ErrName},
		{"1099511627777", 0, api.ErrRange}, {"1 + 2000000000000", 4, api.ErrRange},
		{strings.Repeat("9", api.MaxQuery), 0, api.ErrRange},
		{"18446744073709551617", 0, api.ErrRange}, {"9223372036854775808", 0, api.ErrRange}, {"10000000000000000000000", 0, api.ErrRange},
		{"a" + strings.Repeat("0", 900) + " 1099511627777", 0, api.ErrName},
		{`"`, 0, api.ErrShort}, {`a "b`, 2, api.ErrShort}, {`"a" "`, 4, api.ErrShort}, {"\"\x00", 0, api.ErrShort},
		{"\"a\xff\"", 0, api.ErrForm}, {"\"\x00\"", 0, api.ErrForm}, {"1 \"a\r\"", 2, api.ErrForm}, {"\"\x1f\"", 0, api.ErrForm},
		{"\"\xc3\" $", 0, api.ErrForm},
		{"a $ #", 2, api.ErrName}, {"# $", 0, api.ErrForm}, {`1 2000000000000 "`, 2, api.ErrRange},
	})
}

// P5.3: as many bytes, and as many tokens, as may be, and one more.
func TestCutSizes(t *testing.T) {
	if got, at, e := read.Cut(strings.Repeat(" ", api.MaxQuery-1) + "a"); len(got) != 1 || at != 0 || e != api.OK {
		t.Errorf("as many bytes as may be: %v %d %d", got, at, e)
	}
	full := strings.Repeat("a ", api.MaxTokens)
	for _, s := range []string{full, full + " \n\t", strings.Repeat("-", api.MaxTokens)} {
		if got, at, e := read.Cut(s); len(got) != api.MaxTokens || at != 0 || e != api.OK {
			t.Errorf("as many tokens as may be: %d tokens, %d %d", len(got), at, e)
		}
	}
	refuseCuts(t, []noCut{
		{strings.Repeat(" ", api.MaxQuery+1), 0, api.ErrSize},
		{" #" + strings.Repeat(" ", api.MaxQuery), 0, api.ErrSize},
		{full + "b", len(full), api.ErrSize},
		{full + "  1 1", len(full) + 2, api.ErrSize},
		{full + "#", len(full), api.ErrSize},
		{full + "$", len(full), api.ErrSize},
		{full + `"`, len(full), api.ErrSize},
		{full + tooLong, len(full), api.ErrSize},
		{strings.Repeat("-", api.MaxTokens+1), api.MaxTokens, api.ErrSize},
		{"#" + full + "b", 0, api.ErrForm},
	})
}

// P5.4
func TestCheckToken(t *testing.T) {
	for _, m := range allMarks {
		if e := read.CheckToken(mark(m)); e != api.OK {
			t.Errorf("the mark %s: %d", m, e)
		}
	}
	for _, c := range []struct {
		token api.Token
		want  api.Errno
	}{
		{word("a"), api.OK}, {word("_-9Z"), api.OK}, {word(longest), api.OK}, {dollar("x"), api.OK}, {dollar(longest), api.OK},
		{number(0), api.OK}, {number(api.MaxInt), api.OK},
		{quoted(""), api.OK}, {quoted("é\n\t'#"), api.OK}, {quoted(strings.Repeat("x", api.MaxText)), api.OK},

		{api.Token{}, api.ErrKind}, {api.Token{Kind: 6}, api.ErrKind}, {api.Token{Kind: -1}, api.ErrKind},
		{api.Token{Kind: least}, api.ErrKind}, {api.Token{Kind: most, S: "a", N: 1}, api.ErrKind},

		{number(-1), api.ErrRange}, {number(api.MaxInt + 1), api.ErrRange}, {number(least), api.ErrRange}, {number(most), api.ErrRange},
		{api.Token{Kind: api.Number, S: "1"}, api.ErrForm}, {api.Token{Kind: api.Number, S: "1", N: 1}, api.ErrForm},
		{api.Token{Kind: api.Number, S: "1", N: -1}, api.ErrRange},

		{api.Token{Kind: api.Word, S: "a", N: 1}, api.ErrForm}, {api.Token{Kind: api.Dollar, S: "a", N: -1}, api.ErrForm},
		{api.Token{Kind: api.Quoted, S: "a", N: most}, api.ErrForm}, {api.Token{Kind: api.Mark, S: "/", N: 1}, api.ErrForm},
		{api.Token{Kind: api.Word, N: 1}, api.ErrForm}, {api.Token{Kind: api.Mark, S: "#", N: 1}, api.ErrForm},
		{api.Token{Kind: api.Dollar, S: "1", N: 1}, api.ErrForm},

		{quoted(`"`), api.ErrForm}, {quoted(`a"b`), api.ErrForm}, {quoted("\xff"), api.ErrForm}, {quoted("\r"), api.ErrForm},
		{quoted("\x00"), api.ErrForm}, {quoted(strings.Repeat("x", api.MaxText+1)), api.ErrSize},
		{quoted(strings.Repeat("x", api.MaxText) + `"`), api.ErrForm}, {quoted(strings.Repeat("\xff", api.MaxText+1)), api.ErrSize},

		{mark(""), api.ErrNone}, {mark("#"), api.ErrNone}, {mark("///"), api.ErrNone}, {mark("//a"), api.ErrNone}, {mark(":"), api.ErrNone},
		{mark("!"), api.ErrNone}, {mark(" /"), api.ErrNone}, {mark("/ "), api.ErrNone}, {mark("=="), api.ErrNone}, {mark("or"), api.ErrNone},
		{mark("$"), api.ErrNone}, {mark("..."), api.ErrNone}, {mark("\xff"), api.ErrNone}, {mark(tooLong), api.ErrNone},

		{word(""), api.ErrName}, {word("1"), api.ErrName}, {word("-"), api.ErrName}, {word("-a"), api.ErrName}, {word("a.b"), api.ErrName},
		{word("a b"), api.ErrName}, {word("a "), api.ErrName}, {word("é"), api.ErrName}, {word("$a"), api.ErrName}, {word(tooLong), api.ErrName},
		{word("a\x00"), api.ErrName}, {word("/"), api.ErrName},
		{dollar(""), api.ErrName}, {dollar("1"), api.ErrName}, {dollar("."), api.ErrName}, {dollar("$a"), api.ErrName}, {dollar(tooLong), api.ErrName},
	} {
		if e := read.CheckToken(c.token); e != c.want {
			t.Errorf("CheckToken of kind %d, %.60q, %d: %d, want %d", c.token.Kind, c.token.S, c.token.N, e, c.want)
		}
	}
}
