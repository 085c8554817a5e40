package nodes

import (
	"slices"
	"strconv"
	"testing"

	"apostille/api"
	"apostille/doc"
	"apostille/point"
)

const xmlSpace = "http://www.w3.org/XML/1998/namespace"

// someDocument has each kind of node, ahead of its element, in it and behind it, and each kind of point.
const someDocument = "<!--1--><?i2?><a xmlns:p='u' x='1' p:x='2'>t4<!--5--><b xmlns='v'><!--7-->t8<?i9?><c y='1'/><!--11--></b>t12<d/></a><?i14?><!--15-->"

// someTrees are the trees of the nodes of someDocument, with comments and without.
var someTrees = []struct{ with, without string }{
	{
		"0 1 2 3 3:0 3:1 3@0 3@1 4 5 6 6:0 6:1 6:2 7 8 9 10 10:0 10:1 10:2 10@0 11 12 13 13:0 13:1 14 15",
		"0 2 3 3:0 3:1 3@0 3@1 4 6 6:0 6:1 6:2 8 9 10 10:0 10:1 10:2 10@0 12 13 13:0 13:1 14",
	},
	{"1", ""},
	{"2", "2"},
	{
		"3 3:0 3:1 3@0 3@1 4 5 6 6:0 6:1 6:2 7 8 9 10 10:0 10:1 10:2 10@0 11 12 13 13:0 13:1",
		"3 3:0 3:1 3@0 3@1 4 6 6:0 6:1 6:2 8 9 10 10:0 10:1 10:2 10@0 12 13 13:0 13:1",
	},
	{"4", "4"},
	{"5", ""},
	{"6 6:0 6:1 6:2 7 8 9 10 10:0 10:1 10:2 10@0 11", "6 6:0 6:1 6:2 8 9 10 10:0 10:1 10:2 10@0"},
	{"7", ""},
	{"8", "8"},
	{"9", "9"},
	{"10 10:0 10:1 10:2 10@0", "10 10:0 10:1 10:2 10@0"},
	{"11", ""},
	{"12", "12"},
	{"13 13:0 13:1", "13 13:0 13:1"},
	{"14", "14"},
	{"15", ""},
}

// TestTree has the Root, the element, inner elements, texts, comments and instructions, with comments and without.
func TestTree(t *testing.T) {
	d := document(t, someDocument)
	if d.Len() != len(someTrees) {
		t.Fatal(d.Len())
	}
	for n, x := range someTrees {
		same(t, "with comments "+strconv.Itoa(n), Tree(d, n, true), points(t, x.with))
		same(t, "without comments "+strconv.Itoa(n), Tree(d, n, false), points(t, x.without))
	}
	same(t, "the Root's", Tree(d, 0, true), point.All(d))
	checkTrees(t, d)
}

// TestTreeOf has the trees of small documents, by what is written of them.
func TestTreeOf(t *testing.T) {
	for _, x := range []struct {
		s             string
		n             int
		with, without string
	}{
		{"<a/>", 0, "0 1 1:0", "0 1 1:0"},
		{"<a/>", 1, "1 1:0", "1 1:0"},
		{"<a/>", 2, "", ""},
		{"<a b='1' xmlns='u'/>", 1, "1 1:0 1:1 1@0", "1 1:0 1:1 1@0"},
		{"<a><!--c--></a>", 1, "1 1:0 2", "1 1:0"},
		{"<a><!--c--></a>", 2, "2", ""},
		{"<a><!----></a>", 2, "2", ""},
		{"<!--c--><a/>", 0, "0 1 2 2:0", "0 2 2:0"},
		{"<a/><!--c-->", 0, "0 1 1:0 2", "0 1 1:0"},
		{"<a/><!--c-->", 1, "1 1:0", "1 1:0"},
		{"<a><!--c--><b x='1'/></a>", 1, "1 1:0 2 3 3:0 3@0", "1 1:0 3 3:0 3@0"},
		// What is declared above counts, what stands above or beside doesn't.
		{"<a xmlns:p='u'><b xmlns:q='v'/><b/></a>", 2, "2 2:0 2:1 2:2", "2 2:0 2:1 2:2"},
		{"<a xmlns:p='u'><b xmlns:q='v'/><b/></a>", 3, "3 3:0 3:1", "3 3:0 3:1"},
		{"<a><b><c/></b><d/></a>", 2, "2 2:0 3 3:0", "2 2:0 3 3:0"},
		{"<a><b><c/></b><d/></a>", 3, "3 3:0", "3 3:0"},
		{"<a>x<b>y<!--z--></b>w</a>", 3, "3 3:0 4 5", "3 3:0 4"},
	} {
		d := document(t, x.s)
		what := x.s + " " + strconv.Itoa(x.n)
		same(t, what, Tree(d, x.n, true), points(t, x.with))
		same(t, what+" without comments", Tree(d, x.n, false), points(t, x.without))
		checkTrees(t, d)
	}
}

// TestTreeNotThere has numbers below nought and beyond the last node, a nil document and one that is made by hand.
func TestTreeNotThere(t *testing.T) {
	d := document(t, someDocument)
	for _, comments := range []bool{false, true} {
		for _, n := range append([]int{-64, d.Len(), d.Len() + 1, d.Len() + 64, api.MaxNodes}, someNumbers...) {
			if n < 0 || n >= d.Len() {
				same(t, strconv.Itoa(n), Tree(d, n, comments), nil)
			}
			same(t, "nil", Tree(nil, n, comments), nil)
			same(t, "by hand", Tree(&doc.Doc{}, n, comments), nil)
		}
	}
}

// TestGrow has nodes, namespaces and attributes, what is none of the document, a node and one below it, none.
func TestGrow(t *testing.T) {
	d := document(t, someDocument)
	for l, want := range map[string]string{
		"":            "",
		"0":           someTrees[0].with,
		"1":           "1",
		"2":           "2",
		"3":           someTrees[3].with,
		"4":           "4",
		"6":           someTrees[6].with,
		"10":          someTrees[10].with,
		"15":          "15",
		"5 7 11":      "5 7 11",
		"13 10":       "10 10:0 10:1 10:2 10@0 13 13:0 13:1",
		"8 4 14 4 8":  "4 8 14",
		"6 10":        someTrees[6].with,
		"10 6":        someTrees[6].with,
		"6 3 10 8":    someTrees[3].with,
		"6 13":        someTrees[6].with + " 13 13:0 13:1",
		"12 6 5":      "5 " + someTrees[6].with + " 12",
		"3 15":        someTrees[3].with + " 15",
		"15 0 3":      someTrees[0].with,
		"3:1":         "3:1",
		"3@0 3:1":     "3:1 3@0",
		"3@1 3@0 3@0": "3@0 3@1",
		"10@0 6:2":    "6:2 10@0",
		// Those of an element aren't the element.
		"6:0 6:1 6:2": "6:0 6:1 6:2",
		// An element's own, ahead of it and behind it in the list.
		"3@1 6 6:1 3":  someTrees[3].with,
		"10@0 10":      someTrees[10].with,
		"3:0 6 13:1":   "3:0 " + someTrees[6].with + " 13:1",
		"13:1 3:0 6@0": "3:0 13:1",
		// What is none of the document.
		"16":                        "",
		"-1":                        "",
		"16 -1 99 4000":             "",
		"4:0 4@0 0:0 0@0 1@0":       "",
		"3:2 3@2 3:-1 3@-1 16:0":    "",
		"6/0/1 6/0/-1 6/3/0 6/-1/0": "",
		"0/0/1 3/0/2":               "",
		"3:2 3@0 16 4 -1":           "3@0 4",
		"6/0/1 10 16":               someTrees[10].with,
		"-1 6":                      someTrees[6].with,
	} {
		same(t, "Grow of "+l, Grow(d, points(t, l)), points(t, want))
		checkGrow(t, d, points(t, l))
	}
	same(t, "all", Grow(d, point.All(d)), point.All(d))
	same(t, "nil", Grow(d, nil), nil)
	same(t, "none", Grow(d, []api.Point{}), nil)
}

// TestGrowOne has each point of the document by itself, and each two.
func TestGrowOne(t *testing.T) {
	d := document(t, someDocument)
	all := point.All(d)
	for i, p := range all {
		if p.Part == api.Self {
			same(t, tell(all[i:i+1]), Grow(d, []api.Point{p}), Tree(d, p.N, true))
		} else {
			same(t, tell(all[i:i+1]), Grow(d, []api.Point{p}), []api.Point{p})
		}
		for _, q := range all {
			checkGrow(t, d, []api.Point{p, q})
		}
	}
	for i := range all {
		checkGrow(t, d, all[i:])
		checkGrow(t, d, all[:i])
		checkGrow(t, d, slices.Concat(all[:i], all[i+1:]))
	}
}

// TestGrowNotThere has a nil document, one that is made by hand, and points with the least and the greatest numbers.
func TestGrowNotThere(t *testing.T) {
	d := document(t, someDocument)
	var far []api.Point
	for _, n := range someNumbers {
		for _, part := range someNumbers {
			for _, i := range someNumbers {
				if p := (api.Point{N: n, Part: part, I: i}); !point.Has(d, p) {
					far = append(far, p)
				}
			}
		}
	}
	for _, l := range [][]api.Point{nil, {}, {{}}, {{N: 1}}, {{}, {N: 1}, {N: 1, Part: api.Mark}}, far, point.All(d)} {
		same(t, "nil", Grow(nil, l), nil)
		same(t, "by hand", Grow(&doc.Doc{}, l), nil)
	}
	same(t, "far", Grow(d, far), nil)
	same(t, "far and one", Grow(d, append(far, api.Point{N: 10}, far[0])), points(t, someTrees[10].with))
}

// someNodes are nodes of few sorts, below any parent.
func someNodes() []api.Node {
	return []api.Node{
		{Kind: api.Element, Local: "a"},
		{Kind: api.Element, Local: "b", URI: "u", Decls: []api.Decl{{URI: "u"}}, Attrs: []api.Attr{{Local: "z"}}},
		{Kind: api.Element, Prefix: "xml", Local: "c", URI: xmlSpace, Decls: []api.Decl{{}}, Attrs: []api.Attr{{Local: "y"}, {Local: "x"}}},
		{Kind: api.Text, Text: "t"},
		{Kind: api.Comment, Text: "c"},
		{Kind: api.Instruction, Local: "i"},
	}
}

// smallDocuments are all documents of at most so many nodes, of the sorts of someNodes.
func smallDocuments(most int) []*doc.Doc {
	var all []*doc.Doc
	var grow func(l []api.Node)
	grow = func(l []api.Node) {
		if d, e := doc.Of(l); e == api.OK {
			all = append(all, d)
		}
		if len(l) == most {
			return
		}
		for p := len(l) - 1; p >= 0; p = l[p].Parent {
			if p > 0 && l[p].Kind != api.Element {
				continue
			}
			for _, x := range someNodes() {
				x.Parent = p
				grow(append(slices.Clip(l), x))
			}
		}
	}
	grow([]api.Node{{Parent: -1}})
	return all
}

// TestSmallDocuments goes through small documents: their trees, and, of the smaller ones, all sets of their points.
func TestSmallDocuments(t *testing.T) {
	documents := smallDocuments(5)
	if len(documents) < 2000 {
		t.Fatal("too few documents:", len(documents))
	}
	for _, d := range documents {
		all := point.All(d)
		for n := -1; n <= d.Len(); n++ {
			for _, comments := range []bool{false, true} {
				var want []api.Point
				if n < d.Len() {
					want = treeByWords(d, n, comments)
				}
				same(t, "Tree of "+strconv.Itoa(n), Tree(d, n, comments), want)
			}
			// Of what is near a point some are none.
			for part := range 3 {
				l := []api.Point{{N: n, Part: part}, {N: n + 1, Part: part, I: 1}, {N: n - 1, Part: part, I: 2}}
				checkGrow(t, d, l)
			}
		}
		for set := 0; len(all) <= 8 && set < 1<<len(all); set++ {
			var l []api.Point
			for i, p := range all {
				if set>>i&1 == 1 {
					l = append(l, p)
				}
			}
			same(t, "Grow of "+tell(l), Grow(d, l), grownByWords(d, l))
		}
	}
}

// TestMostDepth has as many elements as may be, each below the one ahead, with a comment at each depth.
func TestMostDepth(t *testing.T) {
	l := []api.Node{{Parent: -1}}
	at := 0
	for n := 1; n < api.MaxDepth; n++ {
		l = append(l, api.Node{Kind: api.Element, Parent: at, Local: "a", Decls: []api.Decl{{Prefix: "p" + strconv.Itoa(n), URI: "u"}}})
		at = len(l) - 1
		l = append(l, api.Node{Kind: api.Comment, Parent: at})
	}
	d := documentOf(t, l)
	for n := range l {
		same(t, "Tree of "+strconv.Itoa(n), Tree(d, n, false), treeByWords(d, n, false))
		same(t, "Tree of "+strconv.Itoa(n), Tree(d, n, true), treeByWords(d, n, true))
		same(t, "Grow of "+strconv.Itoa(n), Grow(d, []api.Point{{N: n}}), treeByWords(d, n, true))
	}
	if got := len(Tree(d, at, true)); got != 1+api.MaxDepth+1 {
		t.Error(got)
	}
}

// TestMostNodes has as many nodes as may be: elements with as many attributes as may be among them.
func TestMostNodes(t *testing.T) {
	var attrs []api.Attr
	for i := range api.MaxMarks {
		attrs = append(attrs, api.Attr{Local: "a" + strconv.Itoa(i)})
	}
	l := []api.Node{{Parent: -1}, {Kind: api.Element, Local: "a", Attrs: attrs}}
	want := api.MaxMarks + 3
	for len(l) < api.MaxNodes {
		switch len(l) % 3 {
		case 0:
			l = append(l, api.Node{Kind: api.Element, Parent: 1, Local: "b", Attrs: attrs})
			want += api.MaxMarks + 2
		case 1:
			l = append(l, api.Node{Kind: api.Comment, Parent: len(l) - 1})
			want++
		default:
			l = append(l, api.Node{Kind: api.Text, Parent: 1, Text: "t"})
			want++
		}
	}
	d := documentOf(t, l)
	all := point.All(d)
	same(t, "the Root's", Tree(d, 0, true), all)
	if got := len(Tree(d, 0, true)); got != want {
		t.Error(got, want)
	}
	isNoComment := func(p api.Point) bool { return l[p.N].Kind != api.Comment }
	var some []api.Point
	for _, p := range all {
		if isNoComment(p) {
			some = append(some, p)
		}
	}
	same(t, "without comments", Tree(d, 0, false), some)
	same(t, "the last node's", Tree(d, api.MaxNodes-1, true), all[len(all)-2-api.MaxMarks:])
	same(t, "behind the last one", Tree(d, api.MaxNodes, true), nil)
	same(t, "all", Grow(d, all), all)
	slices.Reverse(some)
	same(t, "Grow", Grow(d, some), all)
}
