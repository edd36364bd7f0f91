package run

import (
	"slices"

	"pleacher/api"
)

// places of columns that are named.
func places(cols []string, names ...string) ([]int, api.Errno) {
	at := make([]int, len(names))
	for i, name := range names {
		at[i] = slices.Index(cols, name)
		if at[i] < 0 {
			return nil, api.ErrCols
		}
	}
	return at, api.OK
}

// each row is looked at, with its items in some columns, until one is refused. The items stand there for that look alone.
func each(r api.Rel, look func(row []api.Item, items ...api.Item) api.Errno, cols ...string) api.Errno {
	at, e := places(r.Cols, cols...)
	if e != api.OK {
		return e
	}
	items := make([]api.Item, len(at))
	for _, row := range r.Rows {
		for i, c := range at {
			items[i] = row[c]
		}
		if e := look(row, items...); e != api.OK {
			return e
		}
	}
	return api.OK
}

// copied: the same relation, in memory of its own.
func copied(r api.Rel) api.Rel {
	made := api.Rel{Cols: slices.Concat(r.Cols), Rows: make([][]api.Item, len(r.Rows))}
	for i, row := range r.Rows {
		made.Rows[i] = slices.Concat(row)
	}
	return made
}
