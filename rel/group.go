package rel

import "pleacher/api"

// Group: for each part an aggregate of a column, in the order in which they come.
func Group(r api.Rel, name, part, which, col string) (api.Rel, api.Errno) {
	if e := Check(r); e != api.OK {
		return api.Rel{}, e
	}
	if !isAggregate(which) {
		return api.Rel{}, api.ErrNone
	}
	partAt, e := column(r.Cols, part)
	if e != api.OK {
		return api.Rel{}, e
	}
	colAt, e := column(r.Cols, col)
	if e != api.OK {
		return api.Rel{}, e
	}
	made := api.Rel{Cols: []string{part, name}}
	places := map[api.Item]int{} // of the rows that are made, by their parts
	for _, row := range r.Rows {
		n, e := countsAs(which, row[colAt])
		if e != api.OK {
			return api.Rel{}, e
		}
		i, there := places[row[partAt]]
		if !there {
			places[row[partAt]] = len(made.Rows)
			made.Rows = append(made.Rows, []api.Item{row[partAt], number(n)})
			continue
		}
		group := made.Rows[i]
		group[1].N = with(which, group[1].N, n)
		if !inBounds(group[1].N) {
			return api.Rel{}, api.ErrValue
		}
	}
	// The names come behind the values: what Check refuses of the columns is told at last.
	if e := checkMade(made.Cols, len(made.Rows)); e != api.OK {
		return api.Rel{}, e
	}
	return made, api.OK
}

func isAggregate(which string) bool {
	switch which {
	case "count", "sum", "min", "max":
		return true
	}
	return false
}

// countsAs: the number as which an item counts in an aggregate: whatever is counted is one more.
func countsAs(which string, x api.Item) (int, api.Errno) {
	if which == "count" {
		return 1, api.OK
	}
	if x.Kind != api.IsInt {
		return 0, api.ErrValue
	}
	return x.N, api.OK
}

// with one number more: what becomes of an aggregate.
func with(which string, soFar, n int) int {
	switch which {
	case "min":
		return min(soFar, n)
	case "max":
		return max(soFar, n)
	}
	return soFar + n
}
