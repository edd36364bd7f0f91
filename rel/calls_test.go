package rel_test

import (
	"strings"
	"testing"

	"pleacher/api"
	"pleacher/rel"
)

type outcome struct {
	r api.Rel
	e api.Errno
}

func of(r api.Rel, e api.Errno) outcome { return outcome{r, e} }

type refused struct {
	what string
	got  outcome
	want api.Errno
}

func runRefused(t *testing.T, l []refused) {
	t.Helper()
	for _, c := range l {
		if c.got.e != c.want || !same(c.got.r, api.Rel{}) {
			t.Errorf("%s: %d rows, %d, want %d", c.what, len(c.got.r.Rows), c.got.e, c.want)
		}
	}
}

type answered struct {
	what string
	got  outcome
	want api.Rel
}

func runAnswered(t *testing.T, l []answered) {
	t.Helper()
	for _, c := range l {
		if c.got.e != api.OK || !same(c.got.r, c.want) {
			t.Errorf("%s: %v %d, want %v", c.what, c.got.r, c.got.e, c.want)
		}
	}
}

// callsOfOne: all calls of one relation, each twice: by its column a, and with everything else wrong, too.
func callsOfOne(what string, r api.Rel, want api.Errno) []refused {
	a, q, two := names("a"), names("q"), names("", "")
	return []refused{
		{"Project of " + what, of(rel.Project(r, a, a)), want},
		{"Project of " + what + " to wrong columns", of(rel.Project(r, two, q)), want},
		{"Select of " + what, of(rel.Select(r, "a")), want},
		{"Select of " + what + " by no column", of(rel.Select(r, "q")), want},
		{"Unique of " + what, of(rel.Unique(r, a)), want},
		{"Unique of " + what + " by no column", of(rel.Unique(r, q)), want},
		{"Rank of " + what, of(rel.Rank(r, "n", a, "")), want},
		{"Rank of " + what + " by no column", of(rel.Rank(r, "", q, "q")), want},
		{"Sort of " + what, of(rel.Sort(r, a)), want},
		{"Sort of " + what + " by no column", of(rel.Sort(r, q)), want},
		{"Group of " + what, of(rel.Group(r, "n", "a", "sum", "a")), want},
		{"Group of " + what + " without an aggregate", of(rel.Group(r, "", "q", "mean", "q")), want},
	}
}

func callsOfTwo(what string, r, s api.Rel, want api.Errno) []refused {
	a, q := names("a"), names("q")
	return []refused{
		{"Join of " + what, of(rel.Join(r, s, "a", "a")), want},
		{"Join of " + what + " by no column", of(rel.Join(r, s, "q", "q")), want},
		{"Cross of " + what, of(rel.Cross(r, s)), want},
		{"Union of " + what, of(rel.Union(r, s)), want},
		{"Except of " + what, of(rel.Except(r, s, a)), want},
		{"Except of " + what + " by no column", of(rel.Except(r, s, q)), want},
	}
}

// P3.4: what Check refuses comes ahead of all else, and of the first relation first.
func TestRefusedRelations(t *testing.T) {
	wrong := []checkCase{
		{"too many columns", relation(append(eight[:], "i")), api.ErrSize},
		{"a name that may not be", relation(names("")), api.ErrName},
		{"a name twice", relation(names("a", "a")), api.ErrTwice},
		{"too many rows", repeated(api.MaxRows+1, names("a"), num(1)), api.ErrSize},
		{"a short row", relation(names("a"), row()), api.ErrCols},
		{"a wrong item", relation(names("a"), row(node(-1))), api.ErrValue},
	}
	good, other := numbers("a", 1, 2), numbers("b", 1, 2)
	for _, c := range wrong {
		runRefused(t, callsOfOne(c.what, c.r, c.want))
		runRefused(t, callsOfTwo(c.what+" and another one", c.r, other, c.want))
		runRefused(t, callsOfTwo("one and "+c.what, good, c.r, c.want))
		for _, d := range wrong {
			runRefused(t, callsOfTwo(c.what+" and "+d.what, c.r, d.r, c.want))
		}
	}
}

// P3.4: a column that is named is not there. There need not be rows.
func TestRefusedColumns(t *testing.T) {
	r, s := relation(names("a", "b")), relation(names("c", "b"))
	for _, x := range names("", "q", "A", "a ") {
		runRefused(t, []refused{
			{"Project, the first", of(rel.Project(r, names("x", "y"), names(x, "b"))), api.ErrCols},
			{"Project, the last", of(rel.Project(r, names("x", "y"), names("b", x))), api.ErrCols},
			{"Select", of(rel.Select(r, x)), api.ErrCols},
			{"Join, the first", of(rel.Join(r, s, x, "c")), api.ErrCols},
			{"Join, the second", of(rel.Join(r, s, "a", x)), api.ErrCols},
			{"Join, of the other relation", of(rel.Join(r, s, "c", "a")), api.ErrCols},
			{"Except, of neither", of(rel.Except(r, s, names("b", x))), api.ErrCols},
			{"Except, of the first one only", of(rel.Except(r, s, names("a"))), api.ErrCols},
			{"Except, of the other one only", of(rel.Except(r, s, names("c"))), api.ErrCols},
			{"Unique", of(rel.Unique(r, names("a", x))), api.ErrCols},
			{"Sort", of(rel.Sort(r, names("a", x))), api.ErrCols},
			{"Rank", of(rel.Rank(r, "n", names("a", x), "")), api.ErrCols},
			{"Group, the part", of(rel.Group(r, "n", x, "count", "a")), api.ErrCols},
			{"Group, the column", of(rel.Group(r, "n", "a", "count", x)), api.ErrCols},
		})
	}
	runRefused(t, []refused{{"Rank, the part", of(rel.Rank(r, "n", names("a"), "q")), api.ErrCols}})
}

// P3.4: what Check refuses of the columns of what is made comes at last, even if it has no rows.
func TestRefusedMade(t *testing.T) {
	r, full := relation(names("a", "b")), relation(eight[:])
	nine := append(eight[:], "i")
	long := strings.Repeat("n", api.MaxName+1)
	a := names("a")
	runRefused(t, []refused{
		{"Project of eight to nine", of(rel.Project(full, nine, eight[:])), api.ErrCols},
		{"Project to one twice", of(rel.Project(r, names("x", "x"), names("a", "b"))), api.ErrTwice},
		{"Project to an empty name", of(rel.Project(r, names("x", ""), names("a", "b"))), api.ErrName},
		{"Project to a long name", of(rel.Project(r, names(long), a)), api.ErrName},
		{"Project of nine of eight", of(rel.Project(full, nine, append(eight[:], "a"))), api.ErrSize},
		{"Project of no column to a wrong name", of(rel.Project(r, names(""), names("q"))), api.ErrCols},
		{"Join of the same names", of(rel.Join(r, relation(names("c", "b")), "a", "c")), api.ErrTwice},
		{"Join of too many", of(rel.Join(full, relation(names("i")), "a", "i")), api.ErrSize},
		{"Join of too many of the same names", of(rel.Join(full, r, "a", "a")), api.ErrSize},
		{"Join by no column of the same names", of(rel.Join(r, r, "a", "q")), api.ErrCols},
		{"Cross of the same names", of(rel.Cross(r, numbers("a", 1))), api.ErrTwice},
		{"Cross of too many", of(rel.Cross(full, relation(names("i")))), api.ErrSize},
		{"Rank to a name that is there", of(rel.Rank(r, "b", a, "a")), api.ErrTwice},
		{"Rank to an empty name", of(rel.Rank(r, "", a, "a")), api.ErrName},
		{"Rank to a long name", of(rel.Rank(r, long, a, "a")), api.ErrName},
		{"Rank to one too many", of(rel.Rank(full, "i", a, "")), api.ErrSize},
		{"Rank to one too many that is there", of(rel.Rank(full, "a", a, "")), api.ErrSize},
		{"Rank by no column to a wrong name", of(rel.Rank(r, "", names("q"), "")), api.ErrCols},
		{"Rank within no column to a wrong name", of(rel.Rank(r, "", a, "q")), api.ErrCols},
	})
}

// P3.4: as many rows as may be, and more; of the columns is told first.
func TestMadeRows(t *testing.T) {
	thousand := repeated(1000, names("a"), num(1))
	more := repeated(api.MaxRows/1000+1, names("b"), num(1))
	most := repeated(api.MaxRows, names("c"), num(1))
	runRefused(t, []refused{
		{"Join to too many", of(rel.Join(thousand, more, "a", "b")), api.ErrSize},
		{"Join to far too many", of(rel.Join(most, repeated(api.MaxRows, names("d"), num(1)), "c", "d")), api.ErrSize},
		{"Join to too many of the same names", of(rel.Join(thousand, repeated(1001, names("a"), num(1)), "a", "a")), api.ErrTwice},
		{"Cross to too many", of(rel.Cross(thousand, more)), api.ErrSize},
		{"Cross to far too many", of(rel.Cross(most, repeated(api.MaxRows, names("d"), num(1)))), api.ErrSize},
		{"Cross to too many without columns", of(rel.Cross(repeated(1000, nil), repeated(1001, nil))), api.ErrSize},
		{"Cross to too many of the same names", of(rel.Cross(most, most)), api.ErrTwice},
		{"Union to too many", of(rel.Union(most, numbers("c", 1))), api.ErrSize},
		{"Union to too many of other columns", of(rel.Union(most, thousand)), api.ErrCols},
	})
	fits := more
	fits.Rows = fits.Rows[1:]
	for _, c := range []struct {
		what string
		got  outcome
		cols int
	}{
		{"Join", of(rel.Join(thousand, fits, "a", "b")), 2},
		{"Cross", of(rel.Cross(thousand, fits)), 2},
		{"Cross of most and one", of(rel.Cross(most, numbers("a", 1))), 2},
		{"Union", of(rel.Union(repeated(api.MaxRows-1000, names("a"), num(2)), thousand)), 1},
		{"Union of most and none", of(rel.Union(relation(names("c")), most)), 1},
	} {
		if len(c.got.r.Rows) != api.MaxRows || len(c.got.r.Cols) != c.cols || c.got.e != api.OK {
			t.Errorf("%s to as many as may be: %d rows, %d", c.what, len(c.got.r.Rows), c.got.e)
		}
	}
}

// P3.5
func TestProject(t *testing.T) {
	r := relation(names("a", "b"), row(num(1), text("x")), row(yes, node(2)), row(num(1), text("x")))
	ab, a := names("a", "b"), names("a")
	runAnswered(t, []answered{
		{"the same", of(rel.Project(r, ab, ab)), r},
		{"other names", of(rel.Project(r, names("x", "y"), ab)), relation(names("x", "y"), r.Rows...)},
		{"the other way round", of(rel.Project(r, names("b", "a"), names("b", "a"))), relation(names("b", "a"), row(text("x"), num(1)), row(node(2), yes), row(text("x"), num(1)))},
		{"names changed", of(rel.Project(r, names("b", "a"), ab)), relation(names("b", "a"), r.Rows...)},
		{"one of them", of(rel.Project(r, a, names("b"))), relation(a, row(text("x")), row(node(2)), row(text("x")))},
		{"one twice", of(rel.Project(r, ab, names("a", "a"))), relation(ab, row(num(1), num(1)), row(yes, yes), row(num(1), num(1)))},
		{"eight of one", of(rel.Project(numbers("a", 1), eight[:], names("a", "a", "a", "a", "a", "a", "a", "a"))), relation(eight[:], row(num(1), num(1), num(1), num(1), num(1), num(1), num(1), num(1)))},
		{"none of them", of(rel.Project(r, nil, nil)), relation(nil, nil, nil, nil)},
		{"no rows", of(rel.Project(relation(ab), names("c"), a)), relation(names("c"))},
	})
	runRefused(t, []refused{
		{"more names than columns", of(rel.Project(r, ab, a)), api.ErrCols},
		{"more columns than names", of(rel.Project(r, a, ab)), api.ErrCols},
		{"no names", of(rel.Project(r, nil, ab)), api.ErrCols},
		{"more wrong names than columns", of(rel.Project(r, names("", ""), a)), api.ErrCols},
		{"no columns", of(rel.Project(r, ab, nil)), api.ErrCols},
	})
}

// P3.6
func TestSelect(t *testing.T) {
	cols := names("a", "b")
	r := relation(cols, row(num(1), yes), row(num(2), no), row(num(3), yes), row(num(1), yes))
	runAnswered(t, []answered{
		{"some", of(rel.Select(r, "b")), relation(cols, r.Rows[0], r.Rows[2], r.Rows[3])},
		{"none", of(rel.Select(relation(cols, row(num(1), no)), "b")), relation(cols)},
		{"of none", of(rel.Select(relation(cols), "a")), relation(cols)},
	})
	for _, x := range row(num(0), num(1), text("true"), text(""), node(1)) {
		runRefused(t, []refused{
			{"first neither true nor false", of(rel.Select(relation(names("a"), row(x), row(yes)), "a")), api.ErrValue},
			{"last neither true nor false", of(rel.Select(relation(names("a"), row(yes), row(no), row(x)), "a")), api.ErrValue},
		})
	}
}

// P3.7
func TestJoin(t *testing.T) {
	r := relation(names("a", "b"), row(num(1), text("p")), row(num(2), text("q")), row(text("1"), text("r")), row(num(1), text("s")))
	s := relation(names("c", "d"), row(yes, num(1)), row(no, num(3)), row(num(1), num(1)), row(node(1), node(1)))
	joined := relation(names("a", "b", "c", "d"),
		row(num(1), text("p"), yes, num(1)), row(num(1), text("p"), num(1), num(1)),
		row(num(1), text("s"), yes, num(1)), row(num(1), text("s"), num(1), num(1)))
	runAnswered(t, []answered{
		{"by numbers", of(rel.Join(r, s, "a", "d")), joined},
		{"the other way round", of(rel.Join(s, r, "d", "a")), relation(names("c", "d", "a", "b"),
			row(yes, num(1), num(1), text("p")), row(yes, num(1), num(1), text("s")),
			row(num(1), num(1), num(1), text("p")), row(num(1), num(1), num(1), text("s")))},
		{"nothing is the same", of(rel.Join(r, s, "b", "c")), relation(names("a", "b", "c", "d"))},
		{"items of other kinds are not the same", of(rel.Join(numbers("a", 1), relation(names("b"), row(node(1)), row(yes), row(text("1"))), "a", "b")), relation(names("a", "b"))},
		{"no rows first", of(rel.Join(relation(r.Cols), s, "a", "c")), relation(names("a", "b", "c", "d"))},
		{"no rows second", of(rel.Join(r, relation(s.Cols), "a", "c")), relation(names("a", "b", "c", "d"))},
	})
}

// P3.7
func TestCross(t *testing.T) {
	r, s := numbers("a", 1, 2, 1), numbers("b", 4, 3)
	ab := names("a", "b")
	runAnswered(t, []answered{
		{"each with each", of(rel.Cross(r, s)), relation(ab,
			row(num(1), num(4)), row(num(1), num(3)), row(num(2), num(4)), row(num(2), num(3)), row(num(1), num(4)), row(num(1), num(3)))},
		{"no rows first", of(rel.Cross(numbers("a"), s)), relation(ab)},
		{"no rows second", of(rel.Cross(r, numbers("b"))), relation(ab)},
		{"with rows without columns", of(rel.Cross(s, relation(nil, nil, row()))), numbers("b", 4, 4, 3, 3)},
		{"with no rows and no columns", of(rel.Cross(s, api.Rel{})), relation(names("b"))},
		{"of nothing", of(rel.Cross(api.Rel{}, api.Rel{})), api.Rel{}},
		{"as many columns as may be", of(rel.Cross(relation(eight[:7], row(no, no, no, no, no, no, no)), relation(eight[7:], row(yes)))), relation(eight[:], row(no, no, no, no, no, no, no, yes))},
	})
}

// P3.8
func TestUnion(t *testing.T) {
	ab := names("a", "b")
	r, s := relation(ab, row(num(2), no), row(num(1), no)), relation(ab, row(num(1), no), row(num(0), yes))
	runAnswered(t, []answered{
		{"both", of(rel.Union(r, s)), relation(ab, row(num(2), no), row(num(1), no), row(num(1), no), row(num(0), yes))},
		{"the other way round", of(rel.Union(s, r)), relation(ab, row(num(1), no), row(num(0), yes), row(num(2), no), row(num(1), no))},
		{"with itself", of(rel.Union(r, r)), relation(ab, row(num(2), no), row(num(1), no), row(num(2), no), row(num(1), no))},
		{"no rows first", of(rel.Union(relation(ab), s)), s},
		{"no rows second", of(rel.Union(r, relation(ab))), r},
		{"no columns", of(rel.Union(relation(nil, nil), relation(names(), row()))), relation(nil, nil, nil)},
	})
	runRefused(t, []refused{
		{"another order", of(rel.Union(r, relation(names("b", "a")))), api.ErrCols},
		{"another name", of(rel.Union(r, relation(names("a", "c")))), api.ErrCols},
		{"one less", of(rel.Union(r, relation(names("a")))), api.ErrCols},
		{"one more", of(rel.Union(r, relation(names("a", "b", "c")))), api.ErrCols},
		{"none", of(rel.Union(r, api.Rel{})), api.ErrCols},
	})
}

// P3.9
func TestExcept(t *testing.T) {
	ab := names("a", "b")
	r := relation(ab, row(num(1), num(1)), row(num(1), num(2)), row(num(2), num(1)), row(num(1), num(2)), row(text("1"), num(3)))
	s := relation(names("b", "c", "a"), row(num(2), yes, num(1)), row(num(4), no, num(5)))
	many := names("a", "a", "a", "a", "a", "a", "a", "a", "a", "b")
	runAnswered(t, []answered{
		{"by one column", of(rel.Except(r, s, names("a"))), relation(ab, row(num(2), num(1)), row(text("1"), num(3)))},
		{"by another one", of(rel.Except(r, s, names("b"))), relation(ab, row(num(1), num(1)), row(num(2), num(1)), row(text("1"), num(3)))},
		{"by both", of(rel.Except(r, s, ab)), relation(ab, row(num(1), num(1)), row(num(2), num(1)), row(text("1"), num(3)))},
		{"by both, the other way round", of(rel.Except(r, s, names("b", "a"))), relation(ab, row(num(1), num(1)), row(num(2), num(1)), row(text("1"), num(3)))},
		{"by both, one of them often", of(rel.Except(r, s, many)), relation(ab, row(num(1), num(1)), row(num(2), num(1)), row(text("1"), num(3)))},
		{"by none: all are the same", of(rel.Except(r, s, nil)), relation(ab)},
		{"by none, of none", of(rel.Except(r, relation(names("z")), nil)), r},
		{"but none", of(rel.Except(r, relation(ab), ab)), r},
		{"but itself", of(rel.Except(r, r, ab)), relation(ab)},
		{"of no rows", of(rel.Except(relation(ab), s, ab)), relation(ab)},
	})
}

// P3.9
func TestUnique(t *testing.T) {
	ab := names("a", "b")
	r := relation(ab, row(num(1), num(2)), row(num(2), num(1)), row(num(1), num(1)), row(num(1), num(2)), row(yes, num(2)), row(text("1"), text("2")), row(text("1"), num(1)))
	many := names("a", "a", "a", "a", "a", "a", "a", "a", "a", "b")
	pick := func(l ...int) api.Rel {
		p := relation(ab)
		for _, i := range l {
			p.Rows = append(p.Rows, r.Rows[i])
		}
		return p
	}
	runAnswered(t, []answered{
		{"by one column", of(rel.Unique(r, names("a"))), pick(0, 1, 4, 5)},
		{"by another one", of(rel.Unique(r, names("b"))), pick(0, 1, 5)},
		{"by both", of(rel.Unique(r, ab)), pick(0, 1, 2, 4, 5, 6)},
		{"by both, one of them often", of(rel.Unique(r, many)), pick(0, 1, 2, 4, 5, 6)},
		{"by none: all are the same", of(rel.Unique(r, nil)), pick(0)},
		{"of no rows", of(rel.Unique(relation(ab), ab)), relation(ab)},
		{"of rows without columns", of(rel.Unique(relation(nil, nil, row(), nil), nil)), relation(nil, nil)},
		{"by eight", of(rel.Unique(repeated(3, eight[:], no, no, no, no, no, no, no, yes), eight[:])), repeated(1, eight[:], no, no, no, no, no, no, no, yes)},
	})
}
