package store_test

import (
	"slices"
	"testing"

	"pleacher/api"
	"pleacher/store"
	"pleacher/xml"
)

// die: numbers that look drawn, the same in each run.
type die uint64

func (d *die) below(n int) int {
	*d = *d*6364136223846793005 + 1442695040888963407
	return int(uint64(*d>>33) % uint64(n))
}

// element: the events of one, with elements of at most deep levels.
func (d *die) element(deep int) []api.Event {
	l := []api.Event{{Kind: api.Start, Name: "a"}}
	for i := range d.below(3) {
		l = append(l, api.Event{Kind: api.Attr, Name: []string{"k", "l"}[i], Value: "v"})
	}
	for range d.below(4) {
		switch d.below(4) {
		case 0, 1:
			if deep > 1 {
				l = append(l, d.element(deep-1)...)
			}
		case 2:
			l = append(l, api.Event{Kind: api.Comment, Value: "c"})
		default:
			if l[len(l)-1].Kind != api.Text {
				l = append(l, api.Event{Kind: api.Text, Value: "x"})
			}
		}
	}
	return append(l, api.Event{Kind: api.End})
}

// What is shredded may be, and has the same events again; what is copied is the same as what it is copied of.
func TestShreddedHasItsEvents(t *testing.T) {
	d := die(1)
	for range 300 {
		l := d.element(5)
		if len(l) > api.MaxEvents {
			continue
		}
		nodes, e := store.Shred(l)
		if e != api.OK || store.Check(nodes) != api.OK {
			t.Fatalf("Shred(%v): %v %d, of which Check tells %d", l, nodes, e, store.Check(nodes))
		}
		if got, e := store.Events(nodes, 0); !slices.Equal(got, l) || e != api.OK {
			t.Fatalf("the events of %v: %v %d", l, got, e)
		}
		n := 1 + d.below(len(nodes)-1)
		copied, e := store.Copy(nodes, n, nodes, -1)
		if e != api.OK || store.Check(copied) != api.OK {
			t.Fatalf("node %d of %v, copied: %v %d", n, nodes, copied, e)
		}
		was, _ := store.Events(nodes, n)
		is, _ := store.Events(copied, len(nodes))
		if !slices.Equal(is, was) {
			t.Fatalf("node %d of %v, copied: %v, was %v", n, nodes, is, was)
		}
	}
}

// mayBe: P2.2, word by word.
func mayBe(l []api.Node) bool {
	for i, x := range l {
		named := x.Kind == api.Elem || x.Kind == api.Attr
		around := x.Kind == api.Elem || x.Kind == api.Doc
		if x.Kind != api.Text && x.Kind != api.Comment && !named && !around {
			return false
		}
		if named != (xml.CheckName(x.Name) == api.OK) || !named && x.Name != "" {
			return false
		}
		if around && x.Value != "" || !around && (xml.CheckText(x.Value) != api.OK || x.Size != 0) {
			return false
		}
		if x.Size < 0 || x.Size > len(l)-1-i {
			return false
		}
		p := -1
		for j := range i {
			if i-j <= l[j].Size {
				p = j
			}
		}
		if x.Parent != p || p < 0 && x.Level != 0 || p >= 0 && x.Level != l[p].Level+1 {
			return false
		}
		if p < 0 {
			continue
		}
		if i+x.Size > p+l[p].Size || l[p].Kind != api.Elem && l[p].Kind != api.Doc || x.Kind == api.Doc {
			return false
		}
		if x.Kind == api.Attr && (l[p].Kind == api.Doc || i-1 != p && l[i-1].Kind != api.Attr) {
			return false
		}
	}
	return true
}

// P2.2: any nodes, most of them trees but for one number.
func TestAnyNodes(t *testing.T) {
	d := die(2)
	var tally [2]int
	for range 30000 {
		l := d.nodes()
		want := api.ErrForm
		if mayBe(l) {
			want = api.OK
			tally[1]++
		} else {
			tally[0]++
		}
		if e := store.Check(l); e != want {
			t.Fatalf("%v: %d, want %d", l, e, want)
		}
		n := d.below(len(l)+2) - 1
		if want == api.OK && (n < 0 || n >= len(l)) {
			want = api.ErrNone
		}
		for _, o := range outcomes(l, n, l, -1) {
			if o.e != want && !(o.what == "Copy" && want == api.OK && o.e == api.ErrKind && l[n].Kind == api.Doc) {
				t.Fatalf("%s of node %d of %v: %d, want %d", o.what, n, l, o.e, want)
			}
		}
	}
	if tally[0] < 3000 || tally[1] < 3000 {
		t.Errorf("refused and not: %v", tally)
	}
}

// nodes: drawn sizes and kinds, with the parents and levels that follow from them; at times one number is another one.
func (d *die) nodes() []api.Node {
	l := make([]api.Node, d.below(7))
	for i := range l {
		x := &l[i]
		x.Kind = []int{api.Elem, api.Elem, api.Elem, api.Attr, api.Attr, api.Text, api.Comment, api.Doc}[d.below(8)]
		if x.Kind == api.Elem || x.Kind == api.Attr {
			x.Name = "a"
		}
		x.Parent = -1
		for j := range i {
			if i-j <= l[j].Size {
				x.Parent, x.Level = j, l[j].Level+1
			}
		}
		room := len(l) - 1 - i
		if x.Parent >= 0 {
			room = x.Parent + l[x.Parent].Size - i
		}
		if x.Kind == api.Elem || x.Kind == api.Doc {
			x.Size = d.below(room + 1)
		}
	}
	if len(l) > 0 && d.below(2) == 0 {
		x := &l[d.below(len(l))]
		by := d.below(5) - 2
		switch d.below(4) {
		case 0:
			x.Size += by
		case 1:
			x.Level += by
		case 2:
			x.Parent += by
		default:
			x.Kind += by
		}
	}
	return l
}

// What is handed in stays as it is, its spare room too; answers share no memory with it, or with one another.
func TestGivenStays(t *testing.T) {
	room := append(shred(t, `<r k="1"><a>x</a></r>`), text("spare", 0, -1), text("room", 0, -1))
	l := room[: len(room)-2 : len(room)]
	was := slices.Clone(room)
	overwrite := func(made []api.Node) {
		made = made[:cap(made)]
		for i := range made {
			made[i] = api.Node{}
		}
	}
	store.Check(l)
	store.Text(l, 0)
	for _, n := range []int{1, 3} {
		made, _ := store.Copy(l, n, l, 1)
		overwrite(made)
		made, _ = store.Copy(l, n, l[:0], -1)
		overwrite(made)
		made, _ = store.Copy(l[:0], n, l, -1)
		overwrite(made)
	}
	if !slices.Equal(room, was) {
		t.Errorf("%v, was %v", room, was)
	}
	events := parse(t, "<r>x</r>")
	first, _ := store.Shred(events)
	overwrite(first)
	want := nodes(doc(2), elem("r", 1, 1, 0), text("x", 2, 1))
	if second, _ := store.Shred(events); !slices.Equal(second, want) || !slices.Equal(events, parse(t, "<r>x</r>")) {
		t.Errorf("%v of %v", second, events)
	}
	told, _ := store.Events(want, 0)
	clear(told[:cap(told)])
	if again, _ := store.Events(want, 0); !slices.Equal(again, events) {
		t.Errorf("%v", again)
	}
}
