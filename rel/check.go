package rel

import (
	"slices"

	"pleacher/api"
	"pleacher/xml"
)

// CheckItem: may it be?
func CheckItem(x api.Item) api.Errno {
	if !mayBe(x) {
		return api.ErrValue
	}
	return api.OK
}

func mayBe(x api.Item) bool {
	switch x.Kind {
	case api.IsNode:
		return x.S == "" && 0 <= x.N && x.N < api.MaxNodes
	case api.IsInt:
		return x.S == "" && inBounds(x.N)
	case api.IsText:
		return x.N == 0 && xml.CheckText(x.S) == api.OK
	case api.IsBool:
		return x.S == "" && (x.N == 0 || x.N == 1)
	}
	return false
}

func inBounds(n int) bool { return -api.MaxInt <= n && n <= api.MaxInt }

// Check a relation.
func Check(r api.Rel) api.Errno {
	if e := checkMade(r.Cols, len(r.Rows)); e != api.OK {
		return e
	}
	for _, row := range r.Rows {
		if len(row) != len(r.Cols) {
			return api.ErrCols
		}
		if !mayBeAll(row) {
			return api.ErrValue
		}
	}
	return api.OK
}

func mayBeAll(row []api.Item) bool {
	for _, x := range row {
		if !mayBe(x) {
			return false
		}
	}
	return true
}

// checkMade: may there be a relation with these columns, and so many rows? It is asked ahead of making them.
func checkMade(cols []string, rows int) api.Errno {
	if len(cols) > api.MaxCols {
		return api.ErrSize
	}
	for i, name := range cols {
		if len(name) < 1 || len(name) > api.MaxName {
			return api.ErrName
		}
		if slices.Contains(cols[:i], name) {
			return api.ErrTwice
		}
	}
	if rows > api.MaxRows {
		return api.ErrSize
	}
	return api.OK
}

func checkBoth(a, b api.Rel) api.Errno {
	if e := Check(a); e != api.OK {
		return e
	}
	return Check(b)
}

// column: the place of one that is named.
func column(cols []string, name string) (int, api.Errno) {
	c := slices.Index(cols, name)
	if c < 0 {
		return 0, api.ErrCols
	}
	return c, api.OK
}

// columns: the places of those that are named, each of them once: to name one again asks for nothing new, and so there
// are never more places than columns.
func columns(cols, names []string) ([]int, api.Errno) {
	var places []int
	for _, name := range names {
		c, e := column(cols, name)
		if e != api.OK {
			return nil, e
		}
		if !slices.Contains(places, c) {
			places = append(places, c)
		}
	}
	return places, api.OK
}
