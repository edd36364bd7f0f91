package trim

import (
	"slices"
	"strconv"
	"strings"

	"pleacher/api"
)

// bare: an op with just what its Kind has, so that what else it had neither counts nor is told.
func bare(op api.Op) api.Op {
	b := api.Op{Kind: op.Kind, In: op.In}
	switch op.Kind {
	case api.Table:
		b.Rel = op.Rel
	case api.Project:
		b.Cols, b.Olds = op.Cols, op.Olds
	case api.Select, api.Join, api.Except, api.Unique, api.Sort:
		b.Cols = op.Cols
	case api.Rank:
		b.New, b.Cols, b.Part = op.New, op.Cols, op.Part
	case api.Group:
		b.New, b.Cols, b.Part, b.Name = op.New, op.Cols, op.Part, op.Name
	case api.Apply:
		b.New, b.Cols, b.Name = op.New, op.Cols, op.Name
	case api.Walk:
		b.Axis, b.Test = op.Axis, bareTest(op.Test)
	case api.Build:
		b.N, b.Name = op.N, op.Name
		if op.N == api.Text {
			b.Name = ""
		}
	}
	return b
}

// bareTest: only a NameTest asks for a name.
func bareTest(t api.Test) api.Test {
	if t.Kind != api.NameTest {
		t.Name = ""
	}
	return t
}

// copied: the same op, with lists of its own. (Whoever moves it makes its In.)
func copied(op api.Op) api.Op {
	op.Cols, op.Olds = slices.Concat(op.Cols), slices.Concat(op.Olds)
	rows := slices.Concat(op.Rel.Rows)
	for i, row := range rows {
		rows[i] = slices.Concat(row)
	}
	op.Rel = api.Rel{Cols: slices.Concat(op.Rel.Cols), Rows: rows}
	return op
}

// key of an op, as it is written: numbers end with a blank, texts have their length ahead, and lists how many they have,
// so that two ops have one key only if they are the same.
type key struct{ b strings.Builder }

// keyOf an op that is bare.
func keyOf(op api.Op) string {
	var k key
	k.numbers(op.Kind, op.N, op.Axis, op.Test.Kind, len(op.In))
	k.numbers(op.In...)
	k.texts(op.New, op.Part, op.Name, op.Test.Name)
	k.list(op.Cols)
	k.list(op.Olds)
	k.list(op.Rel.Cols)
	k.numbers(len(op.Rel.Rows))
	for _, row := range op.Rel.Rows { // each has as many items as there are columns
		for _, x := range row {
			k.numbers(x.Kind, x.N)
			k.texts(x.S)
		}
	}
	return k.b.String()
}

func (k *key) numbers(l ...int) {
	for _, n := range l {
		k.b.WriteString(strconv.Itoa(n))
		k.b.WriteByte(' ')
	}
}

func (k *key) texts(l ...string) {
	for _, s := range l {
		k.numbers(len(s))
		k.b.WriteString(s)
	}
}

func (k *key) list(l []string) {
	k.numbers(len(l))
	k.texts(l...)
}
