package rel_test

import (
	"math"
	"testing"

	"pleacher/api"
	"pleacher/rel"
)

// P3.3: each item stands ahead of all that are behind it in the list, whether it may be or not.
func TestCompare(t *testing.T) {
	l := row(
		api.Item{Kind: math.MinInt, N: 9}, api.Item{}, api.Item{S: "a"},
		node(math.MinInt), node(0), node(2), node(10),
		num(-5), num(0), api.Item{Kind: api.IsInt, S: "z"}, num(1), num(2), num(10), num(math.MaxInt),
		text(""), text("\x00"), text("10"), text("2"), text("Z"), text("a"), text("a\x00"), text("aa"), text("b"), text("é"), text("\uffff"), text("\U00010000"), text("\xff"),
		api.Item{Kind: api.IsText, N: 1}, api.Item{Kind: api.IsText, N: 1, S: "a"},
		no, yes, api.Item{Kind: math.MaxInt, N: math.MinInt},
	)
	for i, a := range l {
		for j, b := range l {
			want := 0
			if i < j {
				want = -1
			} else if i > j {
				want = 1
			}
			if got := rel.Compare(a, b); got != want {
				t.Errorf("Compare(%v, %v): %d, want %d", a, b, got, want)
			}
		}
	}
}

// P3.10
func TestSort(t *testing.T) {
	cols := names("a", "b")
	r := relation(cols,
		row(num(2), text("p")), row(text(""), text("q")), row(num(10), text("p")), row(num(2), text("o")), row(yes, text("p")), row(node(7), text("p")), row(num(2), text("p")))
	for _, c := range []struct {
		by    []string
		order []int
	}{
		{nil, []int{0, 1, 2, 3, 4, 5, 6}},
		{names("a"), []int{5, 0, 3, 6, 2, 1, 4}},
		{names("b"), []int{3, 0, 2, 4, 5, 6, 1}},
		{names("a", "b"), []int{5, 3, 0, 6, 2, 1, 4}},
		{names("b", "a"), []int{3, 5, 0, 6, 2, 4, 1}},
		{names("b", "b", "b", "b", "b", "b", "b", "b", "b", "a"), []int{3, 5, 0, 6, 2, 4, 1}},
	} {
		want := relation(cols)
		for _, i := range c.order {
			want.Rows = append(want.Rows, r.Rows[i])
		}
		if got, e := rel.Sort(r, c.by); !same(got, want) || e != api.OK {
			t.Errorf("by %v: %v %d, want %v", c.by, got, e, want)
		}
	}
	if got, e := rel.Sort(relation(cols), names("b")); !same(got, relation(cols)) || e != api.OK {
		t.Errorf("no rows: %v %d", got, e)
	}
}

// P3.10
func TestRank(t *testing.T) {
	cols := names("a", "b")
	r := relation(cols, row(num(3), yes), row(num(1), yes), row(num(3), no), row(num(2), no), row(num(3), yes), row(num(1), yes))
	for _, c := range []struct {
		by    []string
		part  string
		ranks []int
	}{
		{nil, "", []int{1, 2, 3, 4, 5, 6}},
		{nil, "a", []int{1, 1, 2, 1, 3, 2}},
		{names("a"), "", []int{4, 1, 5, 3, 6, 2}},
		{names("b"), "", []int{3, 4, 1, 2, 5, 6}},
		{names("a", "b"), "", []int{5, 1, 4, 3, 6, 2}},
		{names("b", "a"), "", []int{5, 3, 2, 1, 6, 4}},
		{names("a"), "b", []int{3, 1, 2, 1, 4, 2}},
		{names("b"), "a", []int{2, 1, 1, 1, 3, 2}},
		{names("a"), "a", []int{1, 1, 2, 1, 3, 2}},
		{names("b", "b", "b", "b", "b", "b", "b", "b", "b", "a"), "", []int{5, 3, 2, 1, 6, 4}},
	} {
		want := relation(names("a", "b", "n"))
		for i, n := range c.ranks {
			want.Rows = append(want.Rows, row(r.Rows[i][0], r.Rows[i][1], num(n)))
		}
		if got, e := rel.Rank(r, "n", c.by, c.part); !same(got, want) || e != api.OK {
			t.Errorf("by %v, within %q: %v %d, want %v", c.by, c.part, got, e, want)
		}
	}
	if got, e := rel.Rank(relation(nil, row(), row()), "n", nil, ""); !same(got, numbers("n", 1, 2)) || e != api.OK {
		t.Errorf("of rows without columns: %v %d", got, e)
	}
	if got, e := rel.Rank(relation(cols), "n", cols, "a"); !same(got, relation(names("a", "b", "n"))) || e != api.OK {
		t.Errorf("of no rows: %v %d", got, e)
	}
}

// P3.10: as many rows as may be, the last one first, in two parts.
func TestOrderMany(t *testing.T) {
	r := relation(names("a", "b"))
	for i := range api.MaxRows {
		r.Rows = append(r.Rows, row(num(-i/2), num(i%2)))
	}
	sorted, e := rel.Sort(r, names("a"))
	if len(sorted.Rows) != api.MaxRows || e != api.OK {
		t.Fatalf("Sort: %d rows, %d", len(sorted.Rows), e)
	}
	for i, x := range sorted.Rows {
		if x[0] != num(i/2-(api.MaxRows/2-1)) || x[1] != num(i%2) {
			t.Fatalf("Sort: row %d: %v", i, x)
		}
	}
	ranked, e := rel.Rank(r, "n", names("a"), "b")
	if len(ranked.Rows) != api.MaxRows || e != api.OK {
		t.Fatalf("Rank: %d rows, %d", len(ranked.Rows), e)
	}
	for i, x := range ranked.Rows {
		if x[0] != r.Rows[i][0] || x[2] != num(api.MaxRows/2-i/2) {
			t.Fatalf("Rank: row %d: %v", i, x)
		}
	}
}
