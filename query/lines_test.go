package query

import (
	"testing"

	"pleacher/api"
)

// Lines are told as long as there is room for all of them: that of Run is too great to be filled by a test.
func TestLines(t *testing.T) {
	l := []api.Node{{Kind: api.Elem, Name: "e", Parent: -1}}
	items := api.Rel{Cols: []string{itemCol}, Rows: [][]api.Item{{{Kind: api.IsInt, N: -7}}, {{Kind: api.IsNode}}}}
	const want = "-7\n<e/>\n"
	for most := range 2 * len(want) {
		got, e := lines(l, items, most)
		if most < len(want) && (got != "" || e != api.ErrSize) || most >= len(want) && (got != want || e != api.OK) {
			t.Errorf("at most %d bytes: %q %d", most, got, e)
		}
	}
	if got, e := lines(nil, api.Rel{}, 0); got != "" || e != api.OK {
		t.Errorf("no items: %q %d", got, e)
	}
}

// The order of the rows is not promised of a plan: the items are told by their pos.
func TestInOrder(t *testing.T) {
	row := func(pos, item int) []api.Item {
		return []api.Item{{Kind: api.IsInt, N: item}, {Kind: api.IsInt, N: pos}}
	}
	items, e := inOrder(api.Rel{Cols: []string{itemCol, posCol}, Rows: [][]api.Item{row(10, 3), row(-2, 1), row(9, 2)}})
	if got, f := lines(nil, items, maxAnswer); got != "1\n2\n3\n" || e != api.OK || f != api.OK {
		t.Errorf("%q %d %d", got, e, f)
	}
}
