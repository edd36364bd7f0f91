package stair_test

import (
	"slices"
	"testing"

	"pleacher/api"
	"pleacher/stair"
	"pleacher/store"
	"pleacher/xml"
)

var anyNode = api.Test{Kind: api.AnyNode}

func shred(t *testing.T, s string) []api.Node {
	t.Helper()
	events, e := xml.Parse(s)
	if e != api.OK {
		t.Fatalf("Parse(%q): %d", s, e)
	}
	l, e := store.Shred(events)
	if e != api.OK {
		t.Fatalf("Shred(%q): %d", s, e)
	}
	return l
}

func elem(name string, size, level, parent int) api.Node {
	return api.Node{Kind: api.Elem, Name: name, Size: size, Level: level, Parent: parent}
}

func leaf(kind int, name string, level, parent int) api.Node {
	return api.Node{Kind: kind, Name: name, Level: level, Parent: parent}
}

// sample: a document, an element, and an attribute, a text and an element that are alone.
//
//	 0 the document
//	 1 r
//	 2   @k
//	 3   a
//	 4     @m
//	 5     @n
//	 6     b
//	 7       "x"
//	 8     a comment
//	 9   "y"
//	10   a
//	11   b
//	12     @a
//	13     a
//	14       "z"
//	15 e
//	16   @k
//	17   ""
//	18   a
//	19 @k
//	20 ""
//	21 f
func sample(t *testing.T) []api.Node {
	return append(shred(t, `<r k="1"><a m="2" n="3"><b>x</b><!--c--></a>y<a/><b a="4"><a>z</a></b></r>`),
		elem("e", 3, 0, -1), leaf(api.Attr, "k", 1, 15), leaf(api.Text, "", 1, 15), elem("a", 0, 1, 15),
		leaf(api.Attr, "k", 0, -1), leaf(api.Text, "", 0, -1), elem("f", 0, 0, -1))
}

// on: places of the nodes on an axis.
type on struct {
	axis int
	ctx  []int
	want []int
}

func walk(t *testing.T, l []api.Node, test api.Test, cases []on) {
	t.Helper()
	for _, c := range cases {
		if got, e := stair.Walk(l, c.ctx, c.axis, test); !slices.Equal(got, c.want) || e != api.OK {
			t.Errorf("axis %d of %v, test %v: %v %d, want %v", c.axis, c.ctx, test, got, e, c.want)
		}
	}
}

func at(l ...int) []int { return l }

// P4.1
func TestAxes(t *testing.T) {
	walk(t, sample(t), anyNode, []on{
		{api.Child, at(0), at(1)},
		{api.Child, at(1), at(3, 9, 10, 11)},
		{api.Child, at(3), at(6, 8)},
		{api.Child, at(10), nil},
		{api.Child, at(4), nil},
		{api.Child, at(7), nil},
		{api.Child, at(15), at(17, 18)},
		{api.Child, at(21), nil},

		{api.Descendant, at(0), at(1, 3, 6, 7, 8, 9, 10, 11, 13, 14)},
		{api.Descendant, at(3), at(6, 7, 8)},
		{api.Descendant, at(10), nil},
		{api.Descendant, at(2), nil},
		{api.Descendant, at(15), at(17, 18)},

		{api.DescendantOrSelf, at(0), at(0, 1, 3, 6, 7, 8, 9, 10, 11, 13, 14)},
		{api.DescendantOrSelf, at(11), at(11, 13, 14)},
		{api.DescendantOrSelf, at(4), at(4)},
		{api.DescendantOrSelf, at(21), at(21)},

		{api.Self, at(0), at(0)},
		{api.Self, at(5), at(5)},
		{api.Self, at(9), at(9)},

		{api.Parent, at(0), nil},
		{api.Parent, at(1), at(0)},
		{api.Parent, at(5), at(3)},
		{api.Parent, at(14), at(13)},
		{api.Parent, at(15), nil},
		{api.Parent, at(16), at(15)},
		{api.Parent, at(19), nil},

		{api.Ancestor, at(0), nil},
		{api.Ancestor, at(14), at(0, 1, 11, 13)},
		{api.Ancestor, at(5), at(0, 1, 3)},
		{api.Ancestor, at(18), at(15)},
		{api.Ancestor, at(20), nil},

		{api.AncestorOrSelf, at(0), at(0)},
		{api.AncestorOrSelf, at(14), at(0, 1, 11, 13, 14)},
		{api.AncestorOrSelf, at(12), at(0, 1, 11, 12)},
		{api.AncestorOrSelf, at(19), at(19)},
	})
}

// P4.1: axes to what is ahead and behind, which end with the tree.
func TestAxesAcross(t *testing.T) {
	walk(t, sample(t), anyNode, []on{
		{api.Following, at(0), nil},
		{api.Following, at(1), nil},
		{api.Following, at(2), at(3, 6, 7, 8, 9, 10, 11, 13, 14)},
		{api.Following, at(3), at(9, 10, 11, 13, 14)},
		{api.Following, at(4), at(6, 7, 8, 9, 10, 11, 13, 14)},
		{api.Following, at(7), at(8, 9, 10, 11, 13, 14)},
		{api.Following, at(11), nil},
		{api.Following, at(12), at(13, 14)},
		{api.Following, at(14), nil},
		{api.Following, at(15), nil},
		{api.Following, at(16), at(17, 18)},
		{api.Following, at(19), nil},
		{api.Following, at(20), nil},

		{api.Preceding, at(0), nil},
		{api.Preceding, at(2), nil},
		{api.Preceding, at(3), nil},
		{api.Preceding, at(5), nil},
		{api.Preceding, at(8), at(6, 7)},
		{api.Preceding, at(9), at(3, 6, 7, 8)},
		{api.Preceding, at(12), at(3, 6, 7, 8, 9, 10)},
		{api.Preceding, at(14), at(3, 6, 7, 8, 9, 10)},
		{api.Preceding, at(15), nil},
		{api.Preceding, at(18), at(17)},
		{api.Preceding, at(21), nil},

		{api.FollowingSibling, at(0), nil},
		{api.FollowingSibling, at(1), nil},
		{api.FollowingSibling, at(2), nil},
		{api.FollowingSibling, at(3), at(9, 10, 11)},
		{api.FollowingSibling, at(4), nil},
		{api.FollowingSibling, at(6), at(8)},
		{api.FollowingSibling, at(11), nil},
		{api.FollowingSibling, at(15), nil},
		{api.FollowingSibling, at(17), at(18)},
		{api.FollowingSibling, at(20), nil},

		{api.PrecedingSibling, at(1), nil},
		{api.PrecedingSibling, at(3), nil},
		{api.PrecedingSibling, at(5), nil},
		{api.PrecedingSibling, at(8), at(6)},
		{api.PrecedingSibling, at(11), at(3, 9, 10)},
		{api.PrecedingSibling, at(18), at(17)},
		{api.PrecedingSibling, at(19), nil},
		{api.PrecedingSibling, at(20), nil},
		{api.PrecedingSibling, at(21), nil},

		{api.Attribute, at(0), nil},
		{api.Attribute, at(1), at(2)},
		{api.Attribute, at(3), at(4, 5)},
		{api.Attribute, at(4), nil},
		{api.Attribute, at(6), nil},
		{api.Attribute, at(15), at(16)},
		{api.Attribute, at(19), nil},
	})
}

// P4.1: an attribute may stand behind the children of its element, if an attribute is the last one there.
func TestAxesLateAttribute(t *testing.T) {
	l := []api.Node{elem("a", 4, 0, -1), elem("b", 1, 1, 0), leaf(api.Attr, "k", 2, 1), leaf(api.Attr, "l", 1, 0), leaf(api.Text, "", 1, 0)}
	walk(t, l, anyNode, []on{
		{api.Attribute, at(0), at(3)},
		{api.Attribute, at(1), at(2)},
		{api.Child, at(0), at(1, 4)},
		{api.Descendant, at(0), at(1, 4)},
		{api.Following, at(2), at(4)},
		{api.Following, at(3), at(4)},
		{api.Preceding, at(3), at(1)},
		{api.Preceding, at(4), at(1)},
		{api.FollowingSibling, at(1), at(4)},
		{api.FollowingSibling, at(3), nil},
		{api.PrecedingSibling, at(4), at(1)},
		{api.PrecedingSibling, at(3), nil},
	})
}

// P4.2
func TestTests(t *testing.T) {
	l := sample(t)
	for _, c := range []struct {
		test  api.Test
		cases []on
	}{
		{api.Test{Kind: api.AnyNode, Name: "a"}, []on{
			{api.Self, at(0, 1, 2, 7, 8), at(0, 1, 2, 7, 8)}, {api.Attribute, at(3), at(4, 5)}}},
		{api.Test{Kind: api.TextTest, Name: "a"}, []on{
			{api.Descendant, at(0), at(7, 9, 14)}, {api.Self, at(0, 1, 2, 7, 8), at(7)}, {api.Attribute, at(3), nil}}},
		{api.Test{Kind: api.CommTest, Name: "a"}, []on{
			{api.Descendant, at(0), at(8)}, {api.Self, at(0, 1, 2, 7, 8), at(8)}, {api.Attribute, at(3), nil}}},
		{api.Test{Kind: api.AnyNamed, Name: "a"}, []on{
			{api.Descendant, at(0), at(1, 3, 6, 10, 11, 13)}, {api.Self, at(0, 1, 2, 7, 8), at(1)}, {api.Attribute, at(1, 3, 11), at(2, 4, 5, 12)},
			{api.AncestorOrSelf, at(12), at(1, 11)}, {api.DescendantOrSelf, at(4), nil}}},
		{api.Test{Kind: api.NameTest, Name: "a"}, []on{
			{api.Descendant, at(0), at(3, 10, 13)}, {api.Self, at(3, 6, 12), at(3)}, {api.Attribute, at(1, 3, 11), at(12)},
			{api.Ancestor, at(14), at(13)}, {api.DescendantOrSelf, at(12), nil}, {api.Child, at(1), at(3, 10)}}},
		{api.Test{Kind: api.NameTest, Name: "k"}, []on{
			{api.Descendant, at(0), nil}, {api.Self, at(2, 16, 19), nil}, {api.Attribute, at(1, 15), at(2, 16)}}},
		{api.Test{Kind: api.NameTest}, []on{
			{api.DescendantOrSelf, at(0), nil}, {api.Attribute, at(1, 3), nil}}},
		{api.Test{Kind: api.NameTest, Name: "A"}, []on{{api.Descendant, at(0), nil}}},
		{api.Test{Kind: api.NameTest, Name: "no name"}, []on{{api.Descendant, at(0), nil}}},
	} {
		walk(t, l, c.test, c.cases)
	}
}

// P4.3: many context nodes, in whatever order and how often; what is on several axes is told once.
func TestWalk(t *testing.T) {
	walk(t, sample(t), anyNode, []on{
		{api.Child, nil, nil},
		{api.Child, at(3, 1), at(3, 6, 8, 9, 10, 11)},
		{api.Child, at(11, 3, 11, 3), at(6, 8, 13)},
		{api.Descendant, at(13, 3, 1, 11, 15), at(3, 6, 7, 8, 9, 10, 11, 13, 14, 17, 18)},
		{api.DescendantOrSelf, at(3, 6, 4, 2), at(2, 3, 4, 6, 7, 8)},
		{api.Self, at(20, 3, 20, 3, 0), at(0, 3, 20)},
		{api.Parent, at(10, 9, 4, 0, 18), at(1, 3, 15)},
		{api.Ancestor, at(14, 13, 7, 12, 1), at(0, 1, 3, 6, 11, 13)},
		{api.Ancestor, at(1, 18), at(0, 15)},
		{api.AncestorOrSelf, at(13, 14, 1, 20), at(0, 1, 11, 13, 14, 20)},
		{api.Following, at(3, 7), at(8, 9, 10, 11, 13, 14)},
		{api.Following, at(10, 16, 3), at(9, 10, 11, 13, 14, 17, 18)},
		{api.Preceding, at(3, 12, 9, 18), at(3, 6, 7, 8, 9, 10, 17)},
		{api.FollowingSibling, at(10, 9, 6, 5, 6), at(8, 10, 11)},
		{api.PrecedingSibling, at(9, 10, 8, 18), at(3, 6, 9, 17)},
		{api.Attribute, at(15, 3, 1, 3), at(2, 4, 5, 16)},
	})
}

const (
	least = -1 << 63
	most  = 1<<63 - 1
)

// P4.3: what is refused, and which of several errors is told.
func TestWalkWrong(t *testing.T) {
	l := shred(t, "<r><a/></r>")
	wrong := append(slices.Clone(l), leaf(api.Text, "", 1, 0))
	many := slices.Repeat([]api.Node{leaf(api.Text, "", 0, -1)}, api.MaxNodes+1)
	for _, c := range []struct {
		what string
		l    []api.Node
		ctx  []int
		axis int
		kind int
		want api.Errno
	}{
		{"wrong nodes", wrong, at(0), api.Self, api.AnyNode, api.ErrForm},
		{"wrong nodes without a context", wrong, nil, api.Self, api.AnyNode, api.ErrForm},
		{"too many nodes", many, at(0), api.Self, api.AnyNode, api.ErrSize},
		{"the axis 0", l, at(0), 0, api.AnyNode, api.ErrKind},
		{"the axis 13", l, at(0), 13, api.AnyNode, api.ErrKind},
		{"the axis -1", l, at(0), -1, api.AnyNode, api.ErrKind},
		{"the least axis", l, at(0), least, api.AnyNode, api.ErrKind},
		{"the greatest axis", l, at(0), most, api.AnyNode, api.ErrKind},
		{"no such axis, and no context", l, nil, 13, api.AnyNode, api.ErrKind},
		{"no such axis of no nodes", nil, nil, 13, api.AnyNode, api.ErrKind},
		{"the test 0", l, at(0), api.Self, 0, api.ErrKind},
		{"the test 6", l, at(0), api.Self, 6, api.ErrKind},
		{"the test -1", l, at(0), api.Self, -1, api.ErrKind},
		{"the least test", l, at(0), api.Self, least, api.ErrKind},
		{"the greatest test", l, at(0), api.Self, most, api.ErrKind},
		{"no such test, and no context", l, nil, api.Child, 0, api.ErrKind},
		{"a context node -1", l, at(-1), api.Self, api.AnyNode, api.ErrNone},
		{"a context node behind all", l, at(3), api.Self, api.AnyNode, api.ErrNone},
		{"the least context node", l, at(least), api.Following, api.AnyNode, api.ErrNone},
		{"the greatest context node", l, at(most), api.Descendant, api.AnyNode, api.ErrNone},
		{"the last context node", l, at(0, 1, 2, 3), api.Child, api.AnyNode, api.ErrNone},
		{"the first context node", l, at(-1, 0), api.Parent, api.AnyNode, api.ErrNone},
		{"no nodes", nil, at(0), api.Self, api.AnyNode, api.ErrNone},
		{"wrong nodes ahead of no such axis", wrong, at(0), 13, api.AnyNode, api.ErrForm},
		{"wrong nodes ahead of no such context node", wrong, at(-1), api.Self, api.AnyNode, api.ErrForm},
		{"too many nodes ahead of no such test", many, at(0), api.Self, 0, api.ErrSize},
		{"no such axis ahead of no such context node", l, at(-1), 0, api.AnyNode, api.ErrKind},
		{"no such test ahead of no such context node", l, at(-1), api.Self, 6, api.ErrKind},
	} {
		if got, e := stair.Walk(c.l, c.ctx, c.axis, api.Test{Kind: c.kind}); len(got) > 0 || e != c.want {
			t.Errorf("%s: %v %d, want %d", c.what, got, e, c.want)
		}
	}
	if got, e := stair.Walk(nil, nil, api.Following, anyNode); len(got) > 0 || e != api.OK {
		t.Errorf("nothing at all: %v %d", got, e)
	}
}
