package rel_test

import (
	"math"
	"slices"
	"strings"
	"testing"

	"pleacher/api"
	"pleacher/rel"
)

func node(n int) api.Item    { return api.Item{Kind: api.IsNode, N: n} }
func num(n int) api.Item     { return api.Item{Kind: api.IsInt, N: n} }
func text(s string) api.Item { return api.Item{Kind: api.IsText, S: s} }

var (
	yes = api.Item{Kind: api.IsBool, N: 1}
	no  = api.Item{Kind: api.IsBool}
)

func row(l ...api.Item) []api.Item { return l }

func names(l ...string) []string { return l }

func relation(cols []string, rows ...[]api.Item) api.Rel { return api.Rel{Cols: cols, Rows: rows} }

// numbers: a relation with one column of them.
func numbers(col string, l ...int) api.Rel {
	r := relation(names(col))
	for _, n := range l {
		r.Rows = append(r.Rows, row(num(n)))
	}
	return r
}

// repeated: a relation with as many rows as are asked for, all of them one.
func repeated(n int, cols []string, items ...api.Item) api.Rel {
	return api.Rel{Cols: cols, Rows: slices.Repeat([][]api.Item{items}, n)}
}

// same: lists without elements are, nil or not.
func same(a, b api.Rel) bool {
	return slices.Equal(a.Cols, b.Cols) && slices.EqualFunc(a.Rows, b.Rows, slices.Equal[[]api.Item])
}

// P3.1
func TestCheckItem(t *testing.T) {
	long := strings.Repeat("a", api.MaxText)
	for _, x := range row(
		node(0), node(1), node(api.MaxNodes-1),
		num(0), num(-1), num(api.MaxInt), num(-api.MaxInt),
		text(""), text("a"), text("é\n\t"), text(long),
		yes, no,
	) {
		if e := rel.CheckItem(x); e != api.OK {
			t.Errorf("%.40v: %d", x, e)
		}
	}
	for _, x := range row(
		node(-1), node(api.MaxNodes), node(math.MaxInt), node(math.MinInt),
		num(api.MaxInt+1), num(-api.MaxInt-1), num(math.MaxInt), num(math.MinInt),
		text(long+"a"), text("\xff"), text("\x00"), text("\r"), text("a\xc3"),
		api.Item{Kind: api.IsBool, N: 2}, api.Item{Kind: api.IsBool, N: -1}, api.Item{Kind: api.IsBool, N: math.MinInt},
		api.Item{Kind: api.IsNode, S: "a"}, api.Item{Kind: api.IsInt, N: 1, S: "1"}, api.Item{Kind: api.IsBool, S: "true"},
		api.Item{Kind: api.IsText, N: 1, S: "a"}, api.Item{Kind: api.IsText, N: -1},
		api.Item{}, api.Item{Kind: 5}, api.Item{Kind: -1}, api.Item{Kind: math.MaxInt}, api.Item{S: "a"},
	) {
		if e := rel.CheckItem(x); e != api.ErrValue {
			t.Errorf("%.40v: %d, want %d", x, e, api.ErrValue)
		}
	}
}

type checkCase struct {
	what string
	r    api.Rel
	want api.Errno
}

func runCheck(t *testing.T, l []checkCase) {
	t.Helper()
	for _, c := range l {
		if e := rel.Check(c.r); e != c.want {
			t.Errorf("Check, %s: %d, want %d", c.what, e, c.want)
		}
	}
}

var eight = [api.MaxCols]string{"a", "b", "c", "d", "e", "f", "g", "h"}

// P3.2
func TestCheck(t *testing.T) {
	most := strings.Repeat("a", api.MaxName)
	runCheck(t, []checkCase{
		{"nothing", api.Rel{}, api.OK},
		{"empty lists", relation(names(), row(), nil), api.OK},
		{"columns without rows", relation(eight[:]), api.OK},
		{"all kinds", relation(names("a", "b"), row(node(3), num(-1)), row(text("x"), yes)), api.OK},
		{"the same row twice", relation(names("a"), row(no), row(no)), api.OK},
		{"any bytes as a name", relation(names("\xff", "\x00", " ", "A", "a", "é"+most[2:], most)), api.OK},
		{"too many columns", relation(append(eight[:], "i")), api.ErrSize},
		{"an empty name", relation(names("a", "")), api.ErrName},
		{"a long name", relation(names(most + "a")), api.ErrName},
		{"a long name in bytes", relation(names(strings.Repeat("é", api.MaxName/2+1))), api.ErrName},
		{"a name twice", relation(names("a", "b", "a")), api.ErrTwice},
		{"a short row", relation(names("a", "b"), row(num(1))), api.ErrCols},
		{"a long row", relation(names("a"), row(num(1), num(2))), api.ErrCols},
		{"a row without items", relation(names("a"), nil), api.ErrCols},
		{"a row without columns", relation(nil, row(num(1))), api.ErrCols},
		{"a wrong item", relation(names("a", "b"), row(num(1), num(2)), row(num(1), node(-1))), api.ErrValue},
		{"no item", relation(names("a"), row(api.Item{})), api.ErrValue},
	})
}

// P3.2: which of several errors is told.
func TestCheckOrder(t *testing.T) {
	wrong := node(-1)
	runCheck(t, []checkCase{
		{"the number of columns ahead of their names", relation(append(eight[:], "")), api.ErrSize},
		{"an empty name ahead of one that is there twice", relation(names("", "a", "a")), api.ErrName},
		{"a name twice ahead of an empty one", relation(names("a", "a", "")), api.ErrTwice},
		{"empty names are not told as twice", relation(names("", "")), api.ErrName},
		{"names ahead of rows", relation(names("a", "a"), row(wrong)), api.ErrTwice},
		{"a row's number of items ahead of them", relation(names("a", "b"), row(wrong)), api.ErrCols},
		{"a row ahead of the next one", relation(names("a"), row(wrong), row()), api.ErrValue},
		{"a short row ahead of a wrong item", relation(names("a"), row(), row(wrong)), api.ErrCols},
	})
}

// P3.2: as many rows as may be, and one more.
func TestCheckRows(t *testing.T) {
	runCheck(t, []checkCase{
		{"as many as may be", repeated(api.MaxRows, names("a"), num(1)), api.OK},
		{"as many without columns", repeated(api.MaxRows, nil), api.OK},
		{"too many", repeated(api.MaxRows+1, names("a"), num(1)), api.ErrSize},
		{"too many, ahead of their items", repeated(api.MaxRows+1, names("a"), node(-1)), api.ErrSize},
		{"too many, ahead of how many items they have", repeated(api.MaxRows+1, names("a")), api.ErrSize},
		{"names ahead of too many", repeated(api.MaxRows+1, names(""), num(1)), api.ErrName},
	})
}
