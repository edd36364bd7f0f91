package run

import (
	"slices"

	"pleacher/api"
	"pleacher/rel"
	"pleacher/stair"
	"pleacher/xml"
)

// Columns that have a meaning of their own.
const (
	iterCol = "iter"
	posCol  = "pos"
	itemCol = "item"
)

// checkAlone: what is refused of an op that stands behind some others, whatever columns these have.
func checkAlone(op *api.Op, ahead int, known map[string]function) api.Errno {
	if op.Kind < api.Table || op.Kind > api.Sort {
		return api.ErrKind
	}
	if len(op.In) != inputs[op.Kind] {
		return api.ErrCount
	}
	for _, n := range op.In {
		if n < 0 || n >= ahead {
			return api.ErrRange
		}
	}
	switch op.Kind {
	case api.Table:
		return checkTable(op.Rel)
	case api.Group:
		return checkAggregate(op.Name)
	case api.Apply:
		if _, there := known[op.Name]; !there {
			return api.ErrNone
		}
	case api.Walk:
		_, e := stair.Walk(nil, nil, op.Axis, op.Test) // of no nodes it refuses just what there is not
		return e
	case api.Build:
		return checkMake(op.N, op.Name)
	}
	return api.OK
}

func checkTable(r api.Rel) api.Errno {
	if e := rel.Check(r); e != api.OK {
		return e
	}
	for _, row := range r.Rows {
		for _, x := range row {
			if x.Kind == api.IsNode {
				return api.ErrValue
			}
		}
	}
	return api.OK
}

// checkAggregate: package rel knows which there are, and asks for that ahead of columns.
func checkAggregate(which string) api.Errno {
	if _, e := rel.Group(api.Rel{}, "", "", which, ""); e == api.ErrNone {
		return e
	}
	return api.OK
}

func checkMake(kind int, name string) api.Errno {
	switch kind {
	case api.Elem, api.Attr:
		return xml.CheckName(name)
	case api.Text:
		return api.OK
	}
	return api.ErrKind
}

// outline of what an op tells: a relation without rows. What package rel refuses of such ones is what is refused of the
// columns of its ops.
func outline(op *api.Op, known map[string]function, in ...api.Rel) (api.Rel, api.Errno) {
	switch op.Kind {
	case api.Table:
		return columns(op.Rel.Cols...)
	case api.Source:
		return columns(itemCol)
	case api.Apply:
		return outlineApply(in[0], op.New, known[op.Name].args, op.Cols...)
	case api.Walk:
		if _, e := places(in[0].Cols, iterCol, itemCol); e != api.OK {
			return api.Rel{}, e
		}
		return columns(iterCol, itemCol)
	case api.Build:
		return outlineBuild(in[0], in[1])
	case api.Select, api.Group:
		if len(op.Cols) != 1 {
			return api.Rel{}, api.ErrCols
		}
	case api.Join:
		if len(op.Cols) != 2 {
			return api.Rel{}, api.ErrCols
		}
	}
	return related(op, in...)
}

func outlineApply(r api.Rel, name string, args int, cols ...string) (api.Rel, api.Errno) {
	if len(cols) != args {
		return api.Rel{}, api.ErrCols
	}
	if _, e := places(r.Cols, cols...); e != api.OK {
		return api.Rel{}, e
	}
	return columns(slices.Concat(r.Cols, []string{name})...)
}

func outlineBuild(loop, content api.Rel) (api.Rel, api.Errno) {
	if _, e := places(loop.Cols, iterCol); e != api.OK {
		return api.Rel{}, e
	}
	if _, e := places(content.Cols, iterCol, posCol, itemCol); e != api.OK {
		return api.Rel{}, e
	}
	return columns(iterCol, itemCol)
}

// columns of a relation without rows, if they may be; in memory of its own.
func columns(names ...string) (api.Rel, api.Errno) {
	r := api.Rel{Cols: slices.Concat(names)}
	if e := rel.Check(r); e != api.OK {
		return api.Rel{}, e
	}
	return r, api.OK
}
