package point

import (
	"slices"
	"strconv"
	"strings"
	"testing"

	"apostille/api"
	"apostille/doc"
)

// The chapter's words, worked out anew, one by one and without haste.

// scopeByWords is what is in scope at n, by prefixes, rising.
func scopeByWords(l []api.Node, n int) []api.Decl {
	if l[n].Kind != api.Element {
		return nil
	}
	nearest := map[string]string{}
	above := []int{}
	for ; n >= 0; n = l[n].Parent {
		above = append([]int{n}, above...)
	}
	for _, a := range above {
		for _, x := range l[a].Decls {
			nearest[x.Prefix] = x.URI
		}
	}
	nearest["xml"] = xmlSpace
	var prefixes []string
	for p := range nearest {
		if p != "" || nearest[p] != "" {
			prefixes = append(prefixes, p)
		}
	}
	slices.Sort(prefixes)
	var scope []api.Decl
	for _, p := range prefixes {
		scope = append(scope, api.Decl{Prefix: p, URI: nearest[p]})
	}
	return scope
}

// said is what is to be said of a point.
type said struct {
	name  [3]string
	text  string
	above api.Point
	has   bool
	kind  int
}

// isBelow tells whether n is below a.
func isBelow(l []api.Node, n, a int) bool {
	for n = l[n].Parent; n >= 0; n = l[n].Parent {
		if n == a {
			return true
		}
	}
	return false
}

// ownByWords is what is to be said of the node n.
func ownByWords(l []api.Node, n int) said {
	x := said{text: l[n].Text, kind: l[n].Kind, above: self(max(l[n].Parent, 0)), has: n > 0}
	switch l[n].Kind {
	case api.Element:
		x.name = [3]string{l[n].Prefix, l[n].Local, l[n].URI}
	case api.Instruction:
		x.name[1] = l[n].Local
	}
	if l[n].Kind == api.Root || l[n].Kind == api.Element {
		for i := range l {
			if l[i].Kind == api.Text && isBelow(l, i, n) {
				x.text += l[i].Text
			}
		}
	}
	return x
}

// pointsByWords are the points of l, in order, and what is to be said of each.
func pointsByWords(l []api.Node) ([]api.Point, []said) {
	var points []api.Point
	var all []said
	for n, x := range l {
		points, all = append(points, self(n)), append(all, ownByWords(l, n))
		for i, y := range scopeByWords(l, n) {
			points, all = append(points, namespace(n, i)), append(all, said{[3]string{1: y.Prefix}, y.URI, self(n), true, -1})
		}
		for i, y := range x.Attrs {
			points, all = append(points, mark(n, i)), append(all, said{[3]string{y.Prefix, y.Local, y.URI}, y.Value, self(n), true, -1})
		}
	}
	return points, all
}

// saidOf is what the calls say of p.
func saidOf(d *doc.Doc, p api.Point) said {
	prefix, local, uri := Name(d, p)
	above, ok := Parent(d, p)
	return said{[3]string{prefix, local, uri}, Text(d, p), above, ok, Kind(d, p)}
}

// ofNode are those of l that are of the node n and of the part.
func ofNode(l []api.Point, n, part int) []api.Point {
	var some []api.Point
	for _, p := range l {
		if p.N == n && p.Part == part {
			some = append(some, p)
		}
	}
	return some
}

// checkWords holds all that is said of d, of its points and of others, against the words.
func checkWords(t *testing.T, d *doc.Doc) {
	t.Helper()
	l := d.Nodes()
	points, all := pointsByWords(l)
	if got := All(d); !slices.Equal(got, points) {
		t.Fatalf("%.999v: %.999s, not %.999s", l, tell(got), tell(points))
	}
	for i, p := range points {
		if got := saidOf(d, p); got != all[i] || !Has(d, p) {
			t.Fatalf("%.999v, %v: %.999v, not %.999v", l, p, got, all[i])
		}
		if i > 0 && (Compare(points[i-1], p) != -1 || Compare(p, points[i-1]) != 1) || Compare(p, p) != 0 {
			t.Fatalf("%.999v, %v: not in order", l, p)
		}
	}
	for n := -2; n < len(l)+2; n++ {
		spaces, marks := ofNode(points, n, 1), ofNode(points, n, 2)
		if !slices.Equal(Spaces(d, n), spaces) || !slices.Equal(Marks(d, n), marks) {
			t.Fatalf("%.999v, %d: %v, %v, not %v, %v", l, n, Spaces(d, n), Marks(d, n), spaces, marks)
		}
		checkOthers(t, d, n, len(spaces), len(marks))
	}
}

// checkOthers goes through what is no point of d, but is near one at n.
func checkOthers(t *testing.T, d *doc.Doc, n, spaces, marks int) {
	t.Helper()
	most := max(spaces, marks) + 2
	for part := -2; part < 5; part++ {
		for i := -2; i < most; i++ {
			isOne := i >= 0 && (part == 0 && i == 0 && n >= 0 && n < d.Len() || part == 1 && i < spaces || part == 2 && i < marks)
			p := api.Point{N: n, Part: part, I: i}
			if Has(d, p) != isOne {
				t.Fatalf("%.999v, %v: %v", d.Nodes(), p, !isOne)
			}
			if !isOne {
				notThere(t, d, p)
			}
		}
	}
}

// someElements are elements with some of few declarations and attributes.
func someElements() []api.Node {
	return []api.Node{
		{Kind: api.Element, Local: "a"},
		{Kind: api.Element, Local: "b", Decls: []api.Decl{{}}, Attrs: []api.Attr{{Local: "z", Value: "1"}}},
		{Kind: api.Element, Prefix: "p", Local: "c", URI: "u", Decls: []api.Decl{{Prefix: "p", URI: "u"}}},
		{Kind: api.Element, Local: "d", URI: "v", Decls: []api.Decl{{Prefix: "z", URI: "w"}, {URI: "v"}, {Prefix: "a", URI: "w"}}},
		{Kind: api.Element, Prefix: "xml", Local: "e", URI: xmlSpace, Attrs: []api.Attr{
			{Local: "y", Value: "2"}, {Prefix: "xml", Local: "x", URI: xmlSpace, Value: "3"}, {Local: "a"}}},
	}
}

// someOthers are nodes that are no elements.
func someOthers() []api.Node {
	return []api.Node{{Kind: api.Text, Text: "t"}, {Kind: api.Text, Text: "s"}, {Kind: api.Comment, Text: "c"}, {Kind: api.Comment}, {Kind: api.Instruction, Local: "i", Text: "x"}}
}

// TestSmallDocuments goes through all lists of up to five nodes, of which those that are formed are documents.
func TestSmallDocuments(t *testing.T) {
	kinds := append(someElements(), someOthers()...)
	count := 0
	var grow func(l []api.Node)
	grow = func(l []api.Node) {
		if d, e := doc.Of(l); e == api.OK {
			checkWords(t, d)
			count++
		}
		if len(l) == 5 {
			return
		}
		for p := len(l) - 1; p >= 0; p = l[p].Parent {
			if p > 0 && l[p].Kind != api.Element {
				continue
			}
			for i, x := range kinds {
				// Of the last node some kinds are enough.
				if len(l) < 4 || (i+p)%3 == 0 {
					x.Parent = p
					grow(append(slices.Clip(l), x))
				}
			}
		}
	}
	grow([]api.Node{{Parent: -1}})
	if count < 5000 {
		t.Error("too few documents:", count)
	}
}

// element is an element below another node.
func element(parent int, decls []api.Decl, attrs []api.Attr) api.Node {
	return api.Node{Kind: api.Element, Parent: parent, Prefix: "xml", Local: "a", URI: xmlSpace, Decls: decls, Attrs: attrs}
}

// TestMostDepth has as many elements as may be, each below the one ahead, with Texts of their own, and declarations
// at some depths alone.
func TestMostDepth(t *testing.T) {
	for _, each := range []int{1, 2, 7, 63} {
		l := []api.Node{{Parent: -1}}
		at := 0
		for n := 1; n < api.MaxDepth; n++ {
			var decls []api.Decl
			if n%each == 0 {
				decls = []api.Decl{{Prefix: "p" + strconv.Itoa(n), URI: "u" + strconv.Itoa(n)}, {Prefix: "q", URI: "v" + strconv.Itoa(n)}}
			}
			l = append(l, element(at, decls, []api.Attr{{Local: "n", Value: strconv.Itoa(n)}}))
			at = len(l) - 1
			l = append(l, api.Node{Kind: api.Text, Parent: at, Text: strconv.Itoa(n) + " "})
		}
		d := documentOf(t, l)
		checkWords(t, d)
		if got := len(strings.Fields(Text(d, self(0)))); got != api.MaxDepth-1 {
			t.Error(got)
		}
		if p, _, _ := Name(d, self(at)); p != "xml" || Text(d, self(at)) != "63 " || Text(d, mark(at, 0)) != "63" {
			t.Error(p, Text(d, self(at)))
		}
	}
}

// TestMostMarks has an element with as many attributes as may be, and one with as many declarations.
func TestMostMarks(t *testing.T) {
	var attrs []api.Attr
	var decls []api.Decl
	for i := range api.MaxMarks {
		attrs = append(attrs, api.Attr{Local: "a" + strconv.Itoa(99-i), Value: strconv.Itoa(i)})
		decls = append(decls, api.Decl{Prefix: "p" + strconv.Itoa(99-i), URI: "u" + strconv.Itoa(i)})
	}
	d := documentOf(t, []api.Node{{Parent: -1}, element(0, nil, attrs), element(1, decls, nil), element(2, nil, attrs), element(1, nil, nil)})
	checkWords(t, d)
	for i := range api.MaxMarks {
		if _, local, _ := Name(d, mark(3, i)); local != "a"+strconv.Itoa(99-i) || Text(d, mark(3, i)) != strconv.Itoa(i) {
			t.Error(i, local, Text(d, mark(3, i)))
		}
		if _, prefix, _ := Name(d, namespace(3, i)); prefix != "p"+strconv.Itoa(36+i) || Text(d, namespace(3, i)) != "u"+strconv.Itoa(63-i) {
			t.Error(i, prefix, Text(d, namespace(3, i)))
		}
	}
	if Text(d, namespace(3, api.MaxMarks)) != xmlSpace || Has(d, namespace(3, api.MaxMarks+1)) || Has(d, mark(3, api.MaxMarks)) {
		t.Error("what is behind the last one")
	}
}

// TestMostNodes has as many nodes as may be.
func TestMostNodes(t *testing.T) {
	l := []api.Node{{Parent: -1}, element(0, []api.Decl{{Prefix: "p", URI: "u"}}, nil)}
	kinds := append(someElements(), someOthers()[2:]...)
	for len(l) < api.MaxNodes {
		x := kinds[len(l)*5%len(kinds)]
		x.Parent = 1
		l = append(l, x)
	}
	d := documentOf(t, l)
	points, _ := pointsByWords(l)
	if got := All(d); !slices.Equal(got, points) {
		t.Errorf("%.999s", tell(got))
	}
	if Has(d, self(api.MaxNodes)) || !Has(d, self(api.MaxNodes-1)) {
		t.Error("the last node")
	}
}
