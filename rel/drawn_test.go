package rel_test

import (
	"slices"
	"testing"

	"pleacher/api"
	"pleacher/rel"
)

// die: numbers that look drawn, the same in each run.
type die uint64

func (d *die) below(n int) int {
	*d = *d*6364136223846793005 + 1442695040888963407
	return int(uint64(*d>>33) % uint64(n))
}

// one of few items, so that many are the same.
func (d *die) item() api.Item {
	return row(num(0), num(1), num(2), num(-1), num(api.MaxInt), num(-api.MaxInt), text(""), text("a"), text("1"), yes, no, node(0), node(1))[d.below(13)]
}

func (d *die) name() string { return names("a", "b", "c", "d", "q", "")[d.below(6)] }

func (d *die) names(most int) []string {
	var l []string
	for range d.below(most + 1) {
		l = append(l, names("a", "b", "c", "a", "b", "c", "d")[d.below(7)])
	}
	return l
}

// relation: some columns, at times such as may not be; at times all items of one of them are of one kind.
func (d *die) relation() api.Rel {
	r := relation(slices.Clone([][]string{{"a", "b"}, {"a", "b"}, {"b", "a"}, {"a", "b", "c"}, {"c", "d"}, {"c"}, {}, {"a", "a"}}[d.below(8)]))
	only := d.below(4)
	for range d.below(8) {
		var l []api.Item
		for i := range r.Cols {
			x := d.item()
			switch {
			case i > 0:
			case only == 0:
				x = num(d.below(5) - 2)
			case only == 1:
				x = row(yes, no)[d.below(2)]
			}
			l = append(l, x)
		}
		r.Rows = append(r.Rows, l)
	}
	if len(r.Rows) > 0 && d.below(20) == 0 {
		r.Rows[d.below(len(r.Rows))] = row(node(-1), num(1))
	}
	return r
}

// at: a row's item in a column.
func at(r api.Rel, l []api.Item, col string) api.Item { return l[slices.Index(r.Cols, col)] }

func has(r api.Rel, cols ...string) bool {
	for _, c := range cols {
		if !slices.Contains(r.Cols, c) {
			return false
		}
	}
	return true
}

// equal: are a row's items in some columns the same as another one's?
func equal(r api.Rel, l []api.Item, s api.Rel, m []api.Item, cols []string) bool {
	for _, c := range cols {
		if at(r, l, c) != at(s, m, c) {
			return false
		}
	}
	return true
}

// ahead: does the row i come ahead of the row j, ordered by some columns?
func ahead(r api.Rel, i, j int, by []string) bool {
	for _, c := range by {
		if n := rel.Compare(at(r, r.Rows[i], c), at(r, r.Rows[j], c)); n != 0 {
			return n < 0
		}
	}
	return i < j
}

// made: P3.4, its end.
func made(r api.Rel) outcome {
	if e := rel.Check(api.Rel{Cols: r.Cols}); e != api.OK {
		return outcome{e: e}
	}
	return outcome{r: r}
}

func wantJoin(a, b api.Rel, x, y string) outcome {
	if !has(a, x) || !has(b, y) {
		return outcome{e: api.ErrCols}
	}
	r := relation(slices.Concat(a.Cols, b.Cols))
	for _, l := range a.Rows {
		for _, m := range b.Rows {
			if at(a, l, x) == at(b, m, y) {
				r.Rows = append(r.Rows, slices.Concat(l, m))
			}
		}
	}
	return made(r)
}

func wantCross(a, b api.Rel) outcome {
	r := relation(slices.Concat(a.Cols, b.Cols))
	for _, l := range a.Rows {
		for _, m := range b.Rows {
			r.Rows = append(r.Rows, slices.Concat(l, m))
		}
	}
	return made(r)
}

func wantUnion(a, b api.Rel) outcome {
	if !slices.Equal(a.Cols, b.Cols) {
		return outcome{e: api.ErrCols}
	}
	return made(relation(a.Cols, slices.Concat(a.Rows, b.Rows)...))
}

func wantExcept(a, b api.Rel, cols []string) outcome {
	if !has(a, cols...) || !has(b, cols...) {
		return outcome{e: api.ErrCols}
	}
	r := relation(a.Cols)
	for _, l := range a.Rows {
		if !slices.ContainsFunc(b.Rows, func(m []api.Item) bool { return equal(a, l, b, m, cols) }) {
			r.Rows = append(r.Rows, l)
		}
	}
	return made(r)
}

func wantProject(r api.Rel, cols, olds []string) outcome {
	if len(cols) != len(olds) || !has(r, olds...) {
		return outcome{e: api.ErrCols}
	}
	p := relation(cols)
	for _, l := range r.Rows {
		m := row()
		for _, c := range olds {
			m = append(m, at(r, l, c))
		}
		p.Rows = append(p.Rows, m)
	}
	return made(p)
}

func wantSelect(r api.Rel, col string) outcome {
	if !has(r, col) {
		return outcome{e: api.ErrCols}
	}
	s := relation(r.Cols)
	for _, l := range r.Rows {
		switch at(r, l, col) {
		case yes:
			s.Rows = append(s.Rows, l)
		case no:
		default:
			return outcome{e: api.ErrValue}
		}
	}
	return made(s)
}

func wantUnique(r api.Rel, cols []string) outcome {
	if !has(r, cols...) {
		return outcome{e: api.ErrCols}
	}
	u := relation(r.Cols)
	for i, l := range r.Rows {
		if !slices.ContainsFunc(r.Rows[:i], func(m []api.Item) bool { return equal(r, l, r, m, cols) }) {
			u.Rows = append(u.Rows, l)
		}
	}
	return made(u)
}

func wantRank(r api.Rel, name string, by []string, part string) outcome {
	if !has(r, by...) || part != "" && !has(r, part) {
		return outcome{e: api.ErrCols}
	}
	k := relation(append(slices.Clone(r.Cols), name))
	for i, l := range r.Rows {
		n := 1
		for j, m := range r.Rows {
			if (part == "" || at(r, l, part) == at(r, m, part)) && ahead(r, j, i, by) {
				n++
			}
		}
		k.Rows = append(k.Rows, append(slices.Clone(l), num(n)))
	}
	return made(k)
}

func wantSort(r api.Rel, by []string) outcome {
	if !has(r, by...) {
		return outcome{e: api.ErrCols}
	}
	s := relation(r.Cols, make([][]api.Item, len(r.Rows))...)
	for i, l := range r.Rows {
		n := 0
		for j := range r.Rows {
			if ahead(r, j, i, by) {
				n++
			}
		}
		s.Rows[n] = l
	}
	return made(s)
}

func wantGroup(r api.Rel, name, part, which, col string) outcome {
	if !slices.Contains(names("count", "sum", "min", "max"), which) {
		return outcome{e: api.ErrNone}
	}
	if !has(r, part, col) {
		return outcome{e: api.ErrCols}
	}
	g := relation(names(part, name))
	firsts := wantUnique(r, names(part)).r
	for _, l := range firsts.Rows {
		var items []api.Item
		for _, m := range r.Rows {
			if at(r, m, part) == at(r, l, part) {
				items = append(items, at(r, m, col))
			}
		}
		n, e := aggregate(which, items)
		if e != api.OK {
			return outcome{e: e}
		}
		g.Rows = append(g.Rows, row(at(r, l, part), num(n)))
	}
	return made(g)
}

func aggregate(which string, items []api.Item) (int, api.Errno) {
	if which == "count" {
		return len(items), api.OK
	}
	least, most, sum := items[0].N, items[0].N, 0
	for _, x := range items {
		sum += x.N
		least, most = min(least, x.N), max(most, x.N)
		if x.Kind != api.IsInt || which == "sum" && rel.CheckItem(num(sum)) != api.OK {
			return 0, api.ErrValue
		}
	}
	switch which {
	case "min":
		return least, api.OK
	case "max":
		return most, api.OK
	}
	return sum, api.OK
}

// firstOf: what Check refuses of the relations, one by one, comes ahead of what else is told.
func firstOf(want func() outcome, l ...api.Rel) outcome {
	for _, r := range l {
		if e := rel.Check(r); e != api.OK {
			return outcome{e: e}
		}
	}
	return want()
}

// P3.4 to P3.11, word by word, of drawn relations.
func TestDrawn(t *testing.T) {
	d := die(1)
	tally := map[api.Errno]int{}
	for range 20000 {
		a, b := d.relation(), d.relation()
		cols, olds, by := d.names(3), d.names(3), d.names(3)
		x, y, name := d.name(), d.name(), names("n", "a", "b", "")[d.below(4)]
		which := names("count", "sum", "min", "max", "sum", "mean")[d.below(6)]
		for _, c := range []struct {
			what      string
			got, want outcome
		}{
			{"Project", of(rel.Project(a, cols, olds)), firstOf(func() outcome { return wantProject(a, cols, olds) }, a)},
			{"Select", of(rel.Select(a, x)), firstOf(func() outcome { return wantSelect(a, x) }, a)},
			{"Join", of(rel.Join(a, b, x, y)), firstOf(func() outcome { return wantJoin(a, b, x, y) }, a, b)},
			{"Cross", of(rel.Cross(a, b)), firstOf(func() outcome { return wantCross(a, b) }, a, b)},
			{"Union", of(rel.Union(a, b)), firstOf(func() outcome { return wantUnion(a, b) }, a, b)},
			{"Except", of(rel.Except(a, b, by)), firstOf(func() outcome { return wantExcept(a, b, by) }, a, b)},
			{"Unique", of(rel.Unique(a, by)), firstOf(func() outcome { return wantUnique(a, by) }, a)},
			{"Rank", of(rel.Rank(a, name, by, x)), firstOf(func() outcome { return wantRank(a, name, by, x) }, a)},
			{"Sort", of(rel.Sort(a, by)), firstOf(func() outcome { return wantSort(a, by) }, a)},
			{"Group", of(rel.Group(a, name, x, which, y)), firstOf(func() outcome { return wantGroup(a, name, x, which, y) }, a)},
		} {
			tally[c.got.e]++
			if !same(c.got.r, c.want.r) || c.got.e != c.want.e {
				t.Fatalf("%s of %v, %v, with %v %v %v %q %q %q %q: %v, want %v", c.what, a, b, cols, olds, by, x, y, name, which, c.got, c.want)
			}
		}
	}
	for _, e := range []api.Errno{api.OK, api.ErrCols, api.ErrValue, api.ErrTwice, api.ErrName, api.ErrNone} {
		if tally[e] < 500 {
			t.Errorf("refused %d: %d times only", e, tally[e])
		}
	}
}

// withSpare: the same relation, with room behind each list in which something stands.
func withSpare(r api.Rel) api.Rel {
	s := relation(append(slices.Clone(r.Cols), "spare")[:len(r.Cols)])
	for _, l := range r.Rows {
		s.Rows = append(s.Rows, append(slices.Clone(l), text("spare"))[:len(l)])
	}
	s.Rows = append(s.Rows, row(text("spare")))[:len(r.Rows)]
	return s
}

// whole: a copy of a relation, with what stands in the spare room of its lists.
func whole(r api.Rel) api.Rel {
	s := relation(slices.Clone(r.Cols[:cap(r.Cols)]))
	for _, l := range r.Rows[:cap(r.Rows)] {
		s.Rows = append(s.Rows, slices.Clone(l[:cap(l)]))
	}
	return s
}

// overwrite all lists of a relation, their spare room too. Each row must hold then what was written to it, and nothing
// that was written to another one.
func overwrite(t *testing.T, what string, r api.Rel) {
	t.Helper()
	fill(r.Cols[:cap(r.Cols)], "written")
	for i, l := range r.Rows {
		fill(l[:cap(l)], num(-i))
	}
	for i, l := range r.Rows {
		for _, x := range l[:cap(l)] {
			if x != num(-i) {
				t.Errorf("%s: two rows of one answer share memory", what)
			}
		}
	}
	fill(r.Rows[:cap(r.Rows)], nil)
}

func fill[E any](l []E, x E) {
	for i := range l {
		l[i] = x
	}
}

type called struct {
	what string
	got  outcome
}

// What is handed in stays as it is, its spare room too; answers share no memory with it, with one another, or within.
func TestGivenStays(t *testing.T) {
	a := withSpare(relation(names("a", "b"), row(num(3), yes), row(num(1), no), row(num(3), yes), row(num(2), yes)))
	b := withSpare(relation(names("c", "d"), row(num(3), yes), row(num(1), no)))
	c := withSpare(relation(names("a", "b"), row(num(1), yes)))
	none := withSpare(relation(nil, nil, nil))
	ab := append(names("a", "b"), "spare")[:2]
	xy := append(names("x", "y"), "spare")[:2]
	calls := func() []called {
		return []called{
			{"Project", of(rel.Project(a, xy, ab))},
			{"Project to nothing", of(rel.Project(a, xy[:0], ab[:0]))},
			{"Select", of(rel.Select(a, "b"))},
			{"Join", of(rel.Join(a, b, "a", "c"))},
			{"Cross", of(rel.Cross(a, b))},
			{"Cross with rows without columns", of(rel.Cross(none, none))},
			{"Union", of(rel.Union(a, c))},
			{"Union with itself", of(rel.Union(a, a))},
			{"Except", of(rel.Except(a, c, ab))},
			{"Except of rows without columns", of(rel.Except(none, a, nil))},
			{"Unique", of(rel.Unique(a, ab))},
			{"Unique of rows without columns", of(rel.Unique(none, ab[:0]))},
			{"Rank", of(rel.Rank(a, "n", ab, "b"))},
			{"Sort", of(rel.Sort(a, ab))},
			{"Sort of rows without columns", of(rel.Sort(none, ab[:0]))},
			{"Group", of(rel.Group(a, "n", "a", "count", "b"))},
		}
	}
	given := func() []api.Rel {
		return []api.Rel{whole(a), whole(b), whole(c), whole(none), {Cols: slices.Clone(ab[:cap(ab)])}, {Cols: slices.Clone(xy[:cap(xy)])}}
	}
	was, first, second := given(), calls(), calls()
	for i, x := range first {
		kept := whole(second[i].got.r)
		overwrite(t, x.what, x.got.r)
		if !same(whole(second[i].got.r), kept) {
			t.Errorf("%s: two answers share memory", x.what)
		}
		if !slices.EqualFunc(given(), was, same) {
			t.Fatalf("%s: what was handed in has changed", x.what)
		}
	}
}
