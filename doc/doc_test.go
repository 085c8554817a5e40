package doc

import (
	"math"
	"reflect"
	"strconv"
	"strings"
	"testing"
	"unsafe"

	"apostille/api"
)

// document is the document of l.
func document(t *testing.T, l []api.Node) *Doc {
	t.Helper()
	d, e := Of(l)
	if e != api.OK {
		t.Fatalf("%v: %v", l, e)
	}
	return d
}

func TestExample(t *testing.T) {
	d := document(t, []api.Node{root(), simple(api.Element, 0)})
	if d.Top() != 1 || d.End(0) != 2 || d.Len() != 2 || d.End(1) != 2 {
		t.Error(d.Top(), d.End(0), d.Len(), d.End(1))
	}
}

// flat is a list of so many nodes, all but two below the Root's element.
func flat(n int) []api.Node {
	l := []api.Node{root(), simple(api.Element, 0)}
	for len(l) < n {
		l = append(l, simple(api.Comment, 1))
	}
	return l
}

// chain is a list of elements, each below the one ahead, and a last node of a Kind with so many above it.
func chain(above, kind int) []api.Node {
	l := []api.Node{root()}
	for len(l) < above {
		l = append(l, simple(api.Element, len(l)-1))
	}
	return append(l, simple(kind, above-1))
}

// marksOf is an element with so many declarations and attributes.
func marksOf(decls, attrs int) api.Node {
	x := api.Node{Kind: api.Element, Local: "a"}
	for i := range decls {
		x.Decls = append(x.Decls, api.Decl{Prefix: "p" + strconv.Itoa(i), URI: "u"})
	}
	for i := range attrs {
		x.Attrs = append(x.Attrs, api.Attr{Local: "x" + strconv.Itoa(i)})
	}
	return x
}

func TestMostNodes(t *testing.T) {
	fine(t, "as many as may be", flat(api.MaxNodes))
	fine(t, "one less", flat(api.MaxNodes-1))
	refused(t, "one more", flat(api.MaxNodes+1), api.ErrLimit)
	refused(t, "far more", flat(3*api.MaxNodes), api.ErrLimit)
	ahead := flat(api.MaxNodes)
	fine(t, "a node exchanged for one at the end", append(ahead[:api.MaxNodes-1], simple(api.Comment, 0)))
	refused(t, "one more at the end", append(flat(api.MaxNodes), simple(api.Comment, 0)), api.ErrLimit)
	l := flat(api.MaxNodes)
	checkTop(t, document(t, l), l)
}

// checkTop holds what is told of the Root and its element of a long list against it.
func checkTop(t *testing.T, d *Doc, l []api.Node) {
	t.Helper()
	kids := d.Kids(1)
	if d.Len() != len(l) || d.End(0) != len(l) || d.End(1) != len(l) || len(kids) != len(l)-2 || kids[0] != 2 || kids[len(kids)-1] != len(l)-1 || !reflect.DeepEqual(d.Nodes(), l) {
		t.Error(d.Len(), d.End(0), d.End(1), len(kids))
	}
}

func TestMostDepth(t *testing.T) {
	for _, kind := range []int{api.Element, api.Text, api.Comment, api.Instruction} {
		for above := 2; above <= api.MaxDepth; above++ {
			l := chain(above, kind)
			d := document(t, l)
			if len(d.Up(above)) != above {
				t.Errorf("%d above, not %d", len(d.Up(above)), above)
			}
			checkTells(t, d, l)
		}
		refused(t, "one deeper", chain(api.MaxDepth+1, kind), api.ErrLimit)
		refused(t, "far deeper", chain(3*api.MaxDepth, kind), api.ErrLimit)
		// The deepest isn't the last node.
		refused(t, "one deeper, and up again", append(chain(api.MaxDepth+1, kind), simple(api.Comment, 1)), api.ErrLimit)
		fine(t, "as deep as may be, and up again", append(chain(api.MaxDepth, kind), simple(api.Element, 1), simple(api.Element, api.MaxDepth+1)))
	}
	// As deep a second time, by nodes that aren't those ahead.
	l := chain(api.MaxDepth, api.Element)
	l = append(l, simple(api.Element, 1))
	for len(aboveByWords(l, len(l)-1)) < api.MaxDepth {
		l = append(l, simple(api.Element, len(l)-1))
	}
	fine(t, "as deep a second time", l)
	refused(t, "deeper the second time", append(l, simple(api.Text, len(l)-1)), api.ErrLimit)
}

func TestMostMarks(t *testing.T) {
	for _, decls := range []int{0, 1, 2, api.MaxMarks / 2, api.MaxMarks - 1, api.MaxMarks} {
		x := marksOf(decls, api.MaxMarks-decls)
		fine(t, "as many marks as may be", []api.Node{root(), x})
		checkTells(t, document(t, []api.Node{root(), x}), []api.Node{root(), x})
		more, another := marksOf(decls+1, api.MaxMarks-decls), marksOf(decls, api.MaxMarks-decls+1)
		for _, y := range []api.Node{more, another} {
			refused(t, "one mark more", []api.Node{root(), y}, api.ErrLimit)
			y.Parent = 1
			refused(t, "one mark more, below", []api.Node{root(), simple(api.Element, 0), y, simple(api.Text, 1)}, api.ErrLimit)
		}
		// Each element's marks count by themselves.
		inner := x
		inner.Parent = 1
		fine(t, "as many, twice", []api.Node{root(), x, inner, inner})
	}
	refused(t, "declarations alone", []api.Node{root(), marksOf(api.MaxMarks+1, 0)}, api.ErrLimit)
	refused(t, "attributes alone", []api.Node{root(), marksOf(0, api.MaxMarks+1)}, api.ErrLimit)
	refused(t, "as many of each", []api.Node{root(), marksOf(api.MaxMarks, api.MaxMarks)}, api.ErrLimit)
}

// TestFormAheadOfLimits has lists that are neither formed nor within the limits.
func TestFormAheadOfLimits(t *testing.T) {
	beyond := map[string][]api.Node{
		"nodes": flat(api.MaxNodes + 1), "depth": chain(api.MaxDepth+1, api.Text), "marks": {root(), marksOf(api.MaxMarks, 1), simple(api.Text, 1)},
		"all": append(append(chain(api.MaxDepth+1, api.Element), marksOfBelow(api.MaxDepth+1)), flat(api.MaxNodes + 1)[2:]...),
	}
	wrong := map[string]func(l []api.Node) []api.Node{
		"the Root":           func(l []api.Node) []api.Node { l[0].Text = "t"; return l },
		"the element":        func(l []api.Node) []api.Node { l[1].Local = "1"; return l },
		"a prefix":           func(l []api.Node) []api.Node { l[1].Prefix, l[1].URI = "z", "z"; return l },
		"the last one":       func(l []api.Node) []api.Node { l[len(l)-1].Prefix = "p"; return l },
		"the last Parent":    func(l []api.Node) []api.Node { l[len(l)-1].Parent = len(l); return l },
		"another element":    func(l []api.Node) []api.Node { return append(l, simple(api.Element, 0)) },
		"an attribute twice": func(l []api.Node) []api.Node { l[1].Attrs = []api.Attr{{Local: "x"}, {Local: "x"}}; return l },
		"a Text at the end":  func(l []api.Node) []api.Node { return append(l, simple(api.Text, 0)) },
	}
	for limit, l := range beyond {
		refused(t, limit, l, api.ErrLimit)
		for what, spoil := range wrong {
			refused(t, limit+", and "+what, spoil(append([]api.Node{}, l...)), api.ErrForm)
		}
	}
}

func marksOfBelow(parent int) api.Node {
	x := marksOf(1, api.MaxMarks)
	x.Parent = parent
	return x
}

// told is all that d tells of its nodes, and of some that there aren't.
func told(d *Doc) []any {
	l := []any{d.Len(), d.Top(), d.Nodes()}
	for n := -2; n < d.Len()+2; n++ {
		l = append(l, d.Node(n), d.Kids(n), d.Up(n), d.End(n))
	}
	return l
}

// TestShapes holds what documents of several shapes tell against what is written here.
func TestShapes(t *testing.T) {
	type tells struct {
		kids, up []int
		end      int
	}
	for what, c := range map[string]struct {
		l    []api.Node
		top  int
		want []tells
	}{
		"one element": {[]api.Node{root(), simple(api.Element, 0)}, 1, []tells{{[]int{1}, nil, 2}, {nil, []int{0}, 2}}},
		"rich": {rich(), 3, []tells{
			{[]int{1, 2, 3, 12}, nil, 13},
			{nil, []int{0}, 2},
			{nil, []int{0}, 3},
			{[]int{4, 5, 8, 9, 10, 11}, []int{0}, 12},
			{nil, []int{3, 0}, 5},
			{[]int{6, 7}, []int{3, 0}, 8},
			{nil, []int{5, 3, 0}, 7},
			{nil, []int{5, 3, 0}, 8},
			{nil, []int{3, 0}, 9},
			{nil, []int{3, 0}, 10},
			{nil, []int{3, 0}, 11},
			{nil, []int{3, 0}, 12},
			{nil, []int{0}, 13},
		}},
		"a chain": {chain(4, api.Text), 1, []tells{{[]int{1}, nil, 5}, {[]int{2}, []int{0}, 5}, {[]int{3}, []int{1, 0}, 5}, {[]int{4}, []int{2, 1, 0}, 5}, {nil, []int{3, 2, 1, 0}, 5}}},
		"two branches": {[]api.Node{root(), simple(api.Element, 0), simple(api.Element, 1), simple(api.Text, 2), simple(api.Element, 1), simple(api.Text, 4)}, 1, []tells{
			{[]int{1}, nil, 6}, {[]int{2, 4}, []int{0}, 6}, {[]int{3}, []int{1, 0}, 4}, {nil, []int{2, 1, 0}, 4}, {[]int{5}, []int{1, 0}, 6}, {nil, []int{4, 1, 0}, 6},
		}},
		"the element last": {[]api.Node{root(), simple(api.Comment, 0), simple(api.Instruction, 0), simple(api.Element, 0)}, 3, []tells{{[]int{1, 2, 3}, nil, 4}, {nil, []int{0}, 2}, {nil, []int{0}, 3}, {nil, []int{0}, 4}}},
	} {
		d := document(t, c.l)
		if d.Len() != len(c.want) || d.Top() != c.top || !reflect.DeepEqual(d.Nodes(), c.l) {
			t.Errorf("%s: %d, %d, %v", what, d.Len(), d.Top(), d.Nodes())
		}
		for n, w := range c.want {
			got := tells{d.Kids(n), d.Up(n), d.End(n)}
			if !reflect.DeepEqual(got, w) || !reflect.DeepEqual(d.Node(n), c.l[n]) {
				t.Errorf("%s, %d: %v, %v", what, n, got, d.Node(n))
			}
		}
		checkNone(t, what, d)
	}
}

// checkNone fails if d tells anything of nodes that there aren't.
func checkNone(t *testing.T, what string, d *Doc) {
	t.Helper()
	n := d.Len()
	for _, i := range []int{-1, -2, -3, -n, -n - 1, -1000, math.MinInt32, math.MinInt, math.MinInt + 1, n, n + 1, n + 2, 2 * n, 100000, math.MaxInt32, math.MaxInt - 1, math.MaxInt} {
		if i >= 0 && i < n {
			continue
		}
		if !reflect.DeepEqual(d.Node(i), api.Node{}) || len(d.Kids(i)) != 0 || len(d.Up(i)) != 0 || d.End(i) != 0 {
			t.Errorf("%s: %d isn't a node, but %v, %v, %v, %d", what, i, d.Node(i), d.Kids(i), d.Up(i), d.End(i))
		}
	}
}

// TestNil is R1: a nil Doc is a document without nodes; so is one that is made by hand.
func TestNil(t *testing.T) {
	for what, d := range map[string]*Doc{"nil": nil, "made by hand": {}} {
		if d.Len() != 0 || d.Top() != 0 || len(d.Nodes()) != 0 {
			t.Error(what, d.Len(), d.Top(), d.Nodes())
		}
		checkNone(t, what, d)
		if d.End(0) != 0 || d.Node(0).Parent != 0 || d.Kids(0) != nil || d.Up(0) != nil {
			t.Error(what, d.End(0), d.Node(0))
		}
	}
}

// spoil fills a list with something else, its spare room too.
func spoil[T any](l []T, x T) {
	l = l[:cap(l)]
	for i := range l {
		l[i] = x
	}
}

// spoilNodes spoils a list of nodes and all lists in it.
func spoilNodes(l []api.Node) {
	for _, x := range l {
		spoil(x.Decls, api.Decl{Prefix: "spoilt", URI: "spoilt"})
		spoil(x.Attrs, api.Attr{Prefix: "spoilt", Local: "spoilt", URI: "spoilt", Value: "spoilt"})
	}
	spoil(l, api.Node{Kind: 9, Parent: 9, Local: "spoilt", Text: "spoilt"})
}

// TestStays is R3: what becomes of the list that was handed in, and of the answers, doesn't matter.
func TestStays(t *testing.T) {
	for _, fresh := range []func() []api.Node{rich, func() []api.Node { return chain(5, api.Text) }, func() []api.Node { return []api.Node{root(), marksOf(3, 5)} }} {
		l := fresh()
		d := document(t, l)
		want := told(document(t, fresh()))
		if !reflect.DeepEqual(l, fresh()) {
			t.Errorf("what was handed in is %v", l)
		}
		spoilNodes(l)
		first := told(d)
		if !reflect.DeepEqual(first, want) {
			t.Errorf("%v, but %v", first, want)
		}
		spoilNodes(d.Nodes())
		for n := range d.Len() {
			x := d.Node(n)
			spoilNodes([]api.Node{x})
			spoil(d.Kids(n), 99)
			spoil(d.Up(n), 99)
		}
		if !reflect.DeepEqual(told(d), want) || !reflect.DeepEqual(first, want) {
			t.Errorf("%v, but %v", told(d), want)
		}
	}
}

// TestOneByOne spoils one list of an answer after the other: those that aren't spoilt yet stay as they are.
func TestOneByOne(t *testing.T) {
	d := document(t, append(rich()[:12], simple(api.Comment, 0), simple(api.Comment, 0)))
	l, want := d.Nodes(), d.Nodes()
	for i := range l {
		spoil(l[i].Decls, api.Decl{Prefix: "spoilt"})
		if !reflect.DeepEqual(l[i].Attrs, want[i].Attrs) || !reflect.DeepEqual(l[i+1:], want[i+1:]) {
			t.Errorf("the declarations of %d share memory", i)
		}
		spoil(l[i].Attrs, api.Attr{Prefix: "spoilt"})
		if !reflect.DeepEqual(l[i+1:], want[i+1:]) {
			t.Errorf("the attributes of %d share memory", i)
		}
	}
}

// TestSpareRoom is R3 too: the spare room of what is handed in is left as it is.
func TestSpareRoom(t *testing.T) {
	room := rich()
	for i := range room {
		room[i].Decls = append(make([]api.Decl, 0, 9), room[i].Decls...)
		room[i].Attrs = append(make([]api.Attr, 0, 9), room[i].Attrs...)
	}
	room = append(make([]api.Node, 0, 99), room...)
	for _, n := range []int{len(room), 5, 4, 3, 0} {
		Of(room[:n])
		for _, x := range room[:len(room):len(room)] {
			for _, y := range x.Decls[len(x.Decls):9] {
				if y != (api.Decl{}) {
					t.Errorf("%v in the spare room", y)
				}
			}
			for _, y := range x.Attrs[len(x.Attrs):9] {
				if y != (api.Attr{}) {
					t.Errorf("%v in the spare room", y)
				}
			}
		}
		for i, x := range room[:99] {
			if i >= len(room) && !reflect.DeepEqual(x, api.Node{}) {
				t.Errorf("%v in the spare room", x)
			}
		}
	}
}

// texts are all texts of l.
func texts(l ...api.Node) []string {
	var all []string
	for _, x := range l {
		all = append(all, x.Prefix, x.Local, x.URI, x.Text)
		for _, d := range x.Decls {
			all = append(all, d.Prefix, d.URI)
		}
		for _, a := range x.Attrs {
			all = append(all, a.Prefix, a.Local, a.URI, a.Value)
		}
	}
	return all
}

// TestTextsAreNew is R3 for texts: none lies where another one's bytes are.
func TestTextsAreNew(t *testing.T) {
	l := rich()
	for i := range l {
		l[i] = nodeCopy(l[i])
	}
	d := document(t, l)
	handed, kept, all := texts(l...), texts(d.nodes...), texts(d.Nodes()...)
	var each []string
	for n := range l {
		each = append(each, texts(d.Node(n))...)
	}
	for i, s := range handed {
		if s != kept[i] || s != all[i] || s != each[i] {
			t.Fatalf("%q is another text now", s)
		}
		places := map[*byte]int{unsafe.StringData(s): 1, unsafe.StringData(kept[i]): 1, unsafe.StringData(all[i]): 1, unsafe.StringData(each[i]): 1}
		if s != "" && len(places) != 4 {
			t.Errorf("%q lies in only %d places", s, len(places))
		}
	}
}

// TestTextsByPieces has a list whose texts are pieces of one that is changed later.
func TestTextsByPieces(t *testing.T) {
	room := []byte("localtext")
	whole := unsafe.String(&room[0], len(room))
	d := document(t, []api.Node{root(), {Kind: api.Element, Local: whole[:5]}, {Kind: api.Text, Parent: 1, Text: whole[5:]}})
	copy(room, strings.Repeat("!", len(room)))
	if d.Node(1).Local != "local" || d.Node(2).Text != "text" {
		t.Error(d.Nodes())
	}
}

// TestAgain is R2: the same list is the same document, and is so again.
func TestAgain(t *testing.T) {
	d := document(t, rich())
	first := told(d)
	for range 3 {
		if !reflect.DeepEqual(told(d), first) || !reflect.DeepEqual(told(document(t, rich())), first) || !reflect.DeepEqual(told(document(t, d.Nodes())), first) {
			t.Fatal("something else is told")
		}
	}
}
