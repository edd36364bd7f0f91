package run

import (
	"pleacher/api"
	"pleacher/axes"
)

// walk a step in each iteration. That the nodes may be is known here, and not asked again for each.
func (f *forest) walk(r api.Rel, axis int, t api.Test) (api.Rel, api.Errno) {
	var iters []api.Item
	ctx := map[api.Item][]int{}
	e := each(r, func(_ []api.Item, items ...api.Item) api.Errno {
		iter, x := items[0], items[1]
		if !f.has(x) {
			return api.ErrValue
		}
		if len(ctx[iter]) == 0 {
			iters = append(iters, iter)
		}
		ctx[iter] = append(ctx[iter], x.N)
		return api.OK
	}, iterCol, itemCol)
	if e != api.OK {
		return api.Rel{}, e
	}
	made := api.Rel{Cols: []string{iterCol, itemCol}}
	for _, iter := range iters {
		found := axes.Reach(f.nodes, ctx[iter], axis, t)
		if len(made.Rows)+len(found) > api.MaxRows {
			return api.Rel{}, api.ErrSize
		}
		for _, n := range found {
			made.Rows = append(made.Rows, []api.Item{iter, nodeItem(n)})
		}
	}
	return made, api.OK
}
