package rel_test

import (
	"testing"

	"pleacher/api"
	"pleacher/rel"
)

// P3.11
func TestGroup(t *testing.T) {
	r := relation(names("x", "p", "y"),
		row(num(5), text("b"), yes), row(num(-2), text("a"), text("1")), row(num(3), text("b"), num(1)),
		row(num(7), num(1), node(0)), row(num(-9), text("a"), num(1)), row(num(5), text("b"), yes))
	for _, c := range []struct {
		which, part, col string
		want             [][]api.Item
	}{
		{"count", "p", "x", [][]api.Item{row(text("b"), num(3)), row(text("a"), num(2)), row(num(1), num(1))}},
		{"count", "p", "y", [][]api.Item{row(text("b"), num(3)), row(text("a"), num(2)), row(num(1), num(1))}},
		{"count", "p", "p", [][]api.Item{row(text("b"), num(3)), row(text("a"), num(2)), row(num(1), num(1))}},
		{"sum", "p", "x", [][]api.Item{row(text("b"), num(13)), row(text("a"), num(-11)), row(num(1), num(7))}},
		{"min", "p", "x", [][]api.Item{row(text("b"), num(3)), row(text("a"), num(-9)), row(num(1), num(7))}},
		{"max", "p", "x", [][]api.Item{row(text("b"), num(5)), row(text("a"), num(-2)), row(num(1), num(7))}},
		{"sum", "x", "x", [][]api.Item{row(num(5), num(10)), row(num(-2), num(-2)), row(num(3), num(3)), row(num(7), num(7)), row(num(-9), num(-9))}},
		{"max", "y", "x", [][]api.Item{row(yes, num(5)), row(text("1"), num(-2)), row(num(1), num(3)), row(node(0), num(7))}},
	} {
		want := relation(names(c.part, "n"), c.want...)
		if got, e := rel.Group(r, "n", c.part, c.which, c.col); !same(got, want) || e != api.OK {
			t.Errorf("%s of %s, by %s: %v %d, want %v", c.which, c.col, c.part, got, e, want)
		}
	}
	for _, which := range names("count", "sum", "min", "max") {
		want := relation(names("p", "x"))
		if got, e := rel.Group(relation(names("x", "p")), "x", "p", which, "x"); !same(got, want) || e != api.OK {
			t.Errorf("%s of no rows: %v %d, want %v", which, got, e, want)
		}
	}
}

// P3.11: sums are held against their bounds item by item, those of each part alone.
func TestGroupBounds(t *testing.T) {
	const most = api.MaxInt
	for _, c := range []struct {
		what  string
		which string
		l     []int
		sum   int
		want  api.Errno
	}{
		{"the greatest sum", "sum", []int{most - 1, 1}, most, api.OK},
		{"the least sum", "sum", []int{1 - most, -1}, -most, api.OK},
		{"down again", "sum", []int{most, -1, 1, -most}, 0, api.OK},
		{"above", "sum", []int{most, 1}, 0, api.ErrValue},
		{"below", "sum", []int{-most, -1}, 0, api.ErrValue},
		{"above, and back", "sum", []int{most, 1, -1}, 0, api.ErrValue},
		{"below, and back", "sum", []int{-most, -1, 1}, 0, api.ErrValue},
		{"above at first", "sum", []int{most, most, -most}, 0, api.ErrValue},
		{"min at the bounds", "min", []int{most, -most, most}, -most, api.OK},
		{"max at the bounds", "max", []int{-most, most, -most}, most, api.OK},
		{"count at the bounds", "count", []int{most, most, most}, 3, api.OK},
	} {
		r := relation(names("p", "x"))
		for _, n := range c.l {
			r.Rows = append(r.Rows, row(no, num(n)))
		}
		want := relation(names("p", "n"), row(no, num(c.sum)))
		if c.want != api.OK {
			want = api.Rel{}
		}
		if got, e := rel.Group(r, "n", "p", c.which, "x"); !same(got, want) || e != c.want {
			t.Errorf("%s: %v %d, want %v %d", c.what, got, e, want, c.want)
		}
	}
	apart := relation(names("p", "x"), row(no, num(most)), row(yes, num(most)))
	if got, e := rel.Group(apart, "x", "p", "sum", "x"); !same(got, apart) || e != api.OK {
		t.Errorf("the greatest numbers, each of its part: %v %d", got, e)
	}
}

// P3.11: errors, and which of several is told.
func TestGroupWrong(t *testing.T) {
	r := relation(names("a", "b"), row(num(1), num(2)), row(num(2), text("3")))
	for _, c := range []struct {
		what                   string
		r                      api.Rel
		name, part, which, col string
		want                   api.Errno
	}{
		{"no such aggregate", r, "n", "a", "mean", "a", api.ErrNone},
		{"none at all", r, "n", "a", "", "a", api.ErrNone},
		{"one in other letters", r, "n", "a", "Sum", "a", api.ErrNone},
		{"no such part", r, "n", "c", "sum", "a", api.ErrCols},
		{"an empty part", r, "n", "", "sum", "a", api.ErrCols},
		{"no such column", r, "n", "a", "sum", "c", api.ErrCols},
		{"no such column, counted", r, "n", "a", "count", "", api.ErrCols},
		{"no numbers to sum", r, "n", "a", "sum", "b", api.ErrValue},
		{"no numbers of which to take the least", r, "n", "a", "min", "b", api.ErrValue},
		{"no numbers of which to take the greatest", r, "n", "a", "max", "b", api.ErrValue},
		{"the first one is no number", relation(names("a"), row(yes)), "n", "a", "max", "a", api.ErrValue},
		{"a node is no number", relation(names("a"), row(node(1))), "n", "a", "min", "a", api.ErrValue},
		{"an empty name", r, "", "a", "count", "b", api.ErrName},
		{"a long name", r, "aaaaaaaaaaaaaaaaaaaaa", "a", "sum", "a", api.ErrName},
		{"the name is the part's", r, "a", "a", "count", "b", api.ErrTwice},
		{"the name is the part's, without rows", relation(names("a")), "a", "a", "sum", "a", api.ErrTwice},
		{"a wrong relation ahead of the aggregate", relation(names("a", "a")), "n", "a", "mean", "a", api.ErrTwice},
		{"the aggregate ahead of columns", r, "n", "c", "mean", "d", api.ErrNone},
		{"columns ahead of values", r, "n", "c", "sum", "b", api.ErrCols},
		{"columns ahead of names", r, "", "c", "sum", "a", api.ErrCols},
		{"values ahead of names", r, "a", "a", "sum", "b", api.ErrValue},
	} {
		if got, e := rel.Group(c.r, c.name, c.part, c.which, c.col); !same(got, api.Rel{}) || e != c.want {
			t.Errorf("%s: %v %d, want %d", c.what, got, e, c.want)
		}
	}
}
