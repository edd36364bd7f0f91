package rel

import (
	"cmp"
	"slices"
	"strings"

	"pleacher/api"
)

// Compare two items: by their kinds, then by what they are.
func Compare(a, b api.Item) int {
	if c := cmp.Compare(a.Kind, b.Kind); c != 0 {
		return c
	}
	if c := cmp.Compare(a.N, b.N); c != 0 {
		return c
	}
	return strings.Compare(a.S, b.S)
}

// Rank: a column more: the how many-th row it is within its part, by some columns.
func Rank(r api.Rel, name string, by []string, part string) (api.Rel, api.Errno) {
	if e := Check(r); e != api.OK {
		return api.Rel{}, e
	}
	places, e := columns(r.Cols, by)
	if e != api.OK {
		return api.Rel{}, e
	}
	partOf := func([]api.Item) api.Item { return api.Item{} }
	if part != "" {
		c, e := column(r.Cols, part)
		if e != api.OK {
			return api.Rel{}, e
		}
		partOf = func(row []api.Item) api.Item { return row[c] }
	}
	more := []string{name}
	if e := checkMade(slices.Concat(r.Cols, more), len(r.Rows)); e != api.OK {
		return api.Rel{}, e
	}
	ranks := make([]int, len(r.Rows))
	counts := map[api.Item]int{} // of the rows of each part, as far as they are ranked
	for _, i := range order(r.Rows, places) {
		p := partOf(r.Rows[i])
		counts[p]++
		ranks[i] = counts[p]
	}
	made := withRoom(len(r.Rows), r.Cols, more)
	for i, row := range r.Rows {
		made.Rows = append(made.Rows, slices.Concat(row, []api.Item{number(ranks[i])}))
	}
	return made, api.OK
}

// Sort rows by some columns; those that are the same there stay in their order.
func Sort(r api.Rel, by []string) (api.Rel, api.Errno) {
	if e := Check(r); e != api.OK {
		return api.Rel{}, e
	}
	places, e := columns(r.Cols, by)
	if e != api.OK {
		return api.Rel{}, e
	}
	made := withRoom(len(r.Rows), r.Cols)
	for _, i := range order(r.Rows, places) {
		made.Rows = append(made.Rows, slices.Concat(r.Rows[i]))
	}
	return made, api.OK
}

// order: the places of the rows, ordered by some columns, then by where they stand: as no two are the same so, it is
// told whole, whichever way it is found.
func order(rows [][]api.Item, by []int) []int {
	places := make([]int, len(rows))
	for i := range places {
		places[i] = i
	}
	slices.SortFunc(places, func(i, j int) int {
		for _, c := range by {
			if n := Compare(rows[i][c], rows[j][c]); n != 0 {
				return n
			}
		}
		return cmp.Compare(i, j)
	})
	return places
}

func number(n int) api.Item { return api.Item{Kind: api.IsInt, N: n} }
