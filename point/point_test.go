package point

import (
	"math"
	"slices"
	"strconv"
	"strings"
	"testing"

	"apostille/api"
	"apostille/doc"
	"apostille/parse"
)

const xmlSpace = "http://www.w3.org/XML/1998/namespace"

// document is the document of the bytes s.
func document(t *testing.T, s string) *doc.Doc {
	t.Helper()
	d, e := parse.Parse([]byte(s))
	if e != api.OK {
		t.Fatalf("%.200q: %v", s, e)
	}
	return d
}

// documentOf is the document of the nodes l.
func documentOf(t *testing.T, l []api.Node) *doc.Doc {
	t.Helper()
	d, e := doc.Of(l)
	if e != api.OK {
		t.Fatalf("%.200v: %v", l, e)
	}
	return d
}

func self(n int) api.Point { return api.Point{N: n} }

func namespace(n, i int) api.Point { return api.Point{N: n, Part: 1, I: i} }

func mark(n, i int) api.Point { return api.Point{N: n, Part: 2, I: i} }

// tell writes points as "N", "N:I" of a namespace, "N@I" of an attribute.
func tell(l []api.Point) string {
	var all []string
	for _, p := range l {
		s := strconv.Itoa(p.N)
		if p.Part != 0 || p.I != 0 {
			s += []string{"/", ":", "@"}[p.Part] + strconv.Itoa(p.I)
		}
		all = append(all, s)
	}
	return strings.Join(all, " ")
}

// hasAll fails if the points of s aren't as want tells.
func hasAll(t *testing.T, s, want string) {
	t.Helper()
	d := document(t, s)
	if got := tell(All(d)); got != want {
		t.Errorf("%s: %s, not %s", s, got, want)
	}
	checkWords(t, d)
}

func TestExample(t *testing.T) {
	l := All(document(t, "<a b='1'/>"))
	if !slices.Equal(l, []api.Point{{}, {N: 1}, {N: 1, Part: api.Space}, {N: 1, Part: api.Mark}}) {
		t.Error(l)
	}
}

// TestAll has each kind of node, elements with none, one and several declarations and attributes, nested ones too.
func TestAll(t *testing.T) {
	hasAll(t, "<a/>", "0 1 1:0")
	hasAll(t, "<a b='1' c='2'/>", "0 1 1:0 1@0 1@1")
	hasAll(t, "<a xmlns='u'/>", "0 1 1:0 1:1")
	hasAll(t, "<a xmlns=''/>", "0 1 1:0")
	hasAll(t, "<a xmlns:xml='"+xmlSpace+"' b='1'/>", "0 1 1:0 1@0")
	hasAll(t, "<a z='1' xmlns:z='u' b='2' xmlns='v' c='3'/>", "0 1 1:0 1:1 1:2 1@0 1@1 1@2")
	hasAll(t, "<a>x</a>", "0 1 1:0 2")
	hasAll(t, "<a b='1'><!--c--></a>", "0 1 1:0 1@0 2")
	hasAll(t, "<a b='1'><?i t?></a>", "0 1 1:0 1@0 2")
	hasAll(t, "<!--c--><?i t?><a/><?i?><!---->", "0 1 2 3 3:0 4 5")
	hasAll(t, "<a>x<b>y<c z='1'/></b>z</a>", "0 1 1:0 2 3 3:0 4 5 5:0 5@0 6")
}

// TestAllInScope has what elements have in scope of those above them, and of those beside them not.
func TestAllInScope(t *testing.T) {
	hasAll(t, "<a xmlns='u'><b/></a>", "0 1 1:0 1:1 2 2:0 2:1")
	hasAll(t, "<a xmlns='u'><b xmlns=''><c/></b><d/></a>", "0 1 1:0 1:1 2 2:0 3 3:0 4 4:0 4:1")
	hasAll(t, "<a xmlns='u'><b xmlns='v'/></a>", "0 1 1:0 1:1 2 2:0 2:1")
	hasAll(t, "<a><b xmlns:p='u'><c/></b><d/></a>", "0 1 1:0 2 2:0 2:1 3 3:0 3:1 4 4:0")
	hasAll(t, "<a xmlns:p='u'><b xmlns:q='v'><c/></b>x<d/></a>", "0 1 1:0 1:1 2 2:0 2:1 2:2 3 3:0 3:1 3:2 4 5 5:0 5:1")
	hasAll(t, "<a xmlns:p='u'>x<b xmlns:p='v' p:d='1'/><!--c--><c d='2'/></a>", "0 1 1:0 1:1 2 3 3:0 3:1 3@0 4 5 5:0 5:1 5@0")
	hasAll(t, "<a xmlns:z='u' e='1'><b xmlns:y='v' xmlns:x='w'><c xmlns:z='w'/></b></a>", "0 1 1:0 1:1 1@0 2 2:0 2:1 2:2 2:3 3 3:0 3:1 3:2 3:3")
}

// someDocument has each kind of node, ahead of its element, in it and behind it, and each kind of point.
const someDocument = "<!--one--><?two three?><p:a xmlns='u' xmlns:p='v' z='1' p:y='2' xml:id='3'>four<!--five-->six<b xmlns='' xmlns:o='w' x='&lt;'>seven<?eight nine?><c xmlns:z='x'/><o:c/></b><![CDATA[ten]]></p:a><?eleven?><!--twelve-->"

// somePoints are the points of someDocument, each with its names and its text.
var somePoints = []struct {
	p                   api.Point
	prefix, local, uri  string
	text                string
	kind, parent, above int
}{
	{p: self(0), text: "foursixseventen", parent: -1},
	{p: self(1), text: "one", kind: api.Comment},
	{p: self(2), local: "two", text: "three", kind: api.Instruction},
	{p: self(3), prefix: "p", local: "a", uri: "v", text: "foursixseventen", kind: api.Element},
	{p: namespace(3, 0), text: "u", kind: -1, parent: 3},
	{p: namespace(3, 1), local: "p", text: "v", kind: -1, parent: 3},
	{p: namespace(3, 2), local: "xml", text: xmlSpace, kind: -1, parent: 3},
	{p: mark(3, 0), local: "z", text: "1", kind: -1, parent: 3},
	{p: mark(3, 1), prefix: "p", local: "y", uri: "v", text: "2", kind: -1, parent: 3},
	{p: mark(3, 2), prefix: "xml", local: "id", uri: xmlSpace, text: "3", kind: -1, parent: 3},
	{p: self(4), text: "four", kind: api.Text, parent: 3},
	{p: self(5), text: "five", kind: api.Comment, parent: 3},
	{p: self(6), text: "six", kind: api.Text, parent: 3},
	{p: self(7), local: "b", text: "seven", kind: api.Element, parent: 3},
	{p: namespace(7, 0), local: "o", text: "w", kind: -1, parent: 7},
	{p: namespace(7, 1), local: "p", text: "v", kind: -1, parent: 7},
	{p: namespace(7, 2), local: "xml", text: xmlSpace, kind: -1, parent: 7},
	{p: mark(7, 0), local: "x", text: "<", kind: -1, parent: 7},
	{p: self(8), text: "seven", kind: api.Text, parent: 7},
	{p: self(9), local: "eight", text: "nine", kind: api.Instruction, parent: 7},
	{p: self(10), local: "c", kind: api.Element, parent: 7},
	{p: namespace(10, 0), local: "o", text: "w", kind: -1, parent: 10},
	{p: namespace(10, 1), local: "p", text: "v", kind: -1, parent: 10},
	{p: namespace(10, 2), local: "xml", text: xmlSpace, kind: -1, parent: 10},
	{p: namespace(10, 3), local: "z", text: "x", kind: -1, parent: 10},
	{p: self(11), prefix: "o", local: "c", uri: "w", kind: api.Element, parent: 7},
	{p: namespace(11, 0), local: "o", text: "w", kind: -1, parent: 11},
	{p: namespace(11, 1), local: "p", text: "v", kind: -1, parent: 11},
	{p: namespace(11, 2), local: "xml", text: xmlSpace, kind: -1, parent: 11},
	{p: self(12), text: "ten", kind: api.Text, parent: 3},
	{p: self(13), local: "eleven", kind: api.Instruction},
	{p: self(14), text: "twelve", kind: api.Comment},
}

// TestSomeDocument goes through all points of someDocument, by what is written of each.
func TestSomeDocument(t *testing.T) {
	d := document(t, someDocument)
	var all []api.Point
	for _, x := range somePoints {
		all = append(all, x.p)
		if !Has(d, x.p) {
			t.Error(x.p, "isn't there")
		}
		if prefix, local, uri := Name(d, x.p); prefix != x.prefix || local != x.local || uri != x.uri {
			t.Errorf("%v: %q, %q, %q", x.p, prefix, local, uri)
		}
		if got := Text(d, x.p); got != x.text {
			t.Errorf("%v: %q, not %q", x.p, got, x.text)
		}
		if got := Kind(d, x.p); got != x.kind {
			t.Errorf("%v: %d, not %d", x.p, got, x.kind)
		}
		p, ok := Parent(d, x.p)
		if x.parent < 0 && (p != api.Point{} || ok) || x.parent >= 0 && (p != self(x.parent) || !ok) {
			t.Errorf("%v: %v, %v", x.p, p, ok)
		}
	}
	if l := All(d); !slices.Equal(l, all) {
		t.Error(tell(l))
	}
	checkWords(t, d)
}

// TestMarks has elements with no attributes, one and several, and nodes that are no elements.
func TestMarks(t *testing.T) {
	d := document(t, "<!--c--><a><b x='1'/><b x='1' y='2'/><b y='1' xmlns:x='u' x:z='2' xmlns='v' a='3'/>t<?i t?><b xmlns='u'/></a>")
	for n, want := range []string{"", "", "", "3@0", "4@0 4@1", "5@0 5@1 5@2", "", "", "", "", ""} {
		if got := tell(Marks(d, n)); got != want {
			t.Errorf("%d: %s, not %s", n, got, want)
		}
	}
	// As they stand there, not by their names.
	var locals []string
	for _, p := range Marks(d, 5) {
		_, local, _ := Name(d, p)
		locals = append(locals, local+"="+Text(d, p))
	}
	if got := strings.Join(locals, " "); got != "y=1 z=2 a=3" {
		t.Error(got)
	}
}

// TestSpaces has elements with xml alone, and with more, and nodes that are no elements.
func TestSpaces(t *testing.T) {
	d := document(t, "<!--c--><a><b xmlns='u'/><b xmlns:z='1' xmlns:b='2' xmlns='3'><c xmlns:a='4' xmlns:z='5'>t</c></b><?i t?><b x='1' y='2'/></a>")
	for n, want := range []string{"", "", "2:0", "3:0 3:1", "4:0 4:1 4:2 4:3", "5:0 5:1 5:2 5:3 5:4", "", "", "8:0", "", ""} {
		if got := tell(Spaces(d, n)); got != want {
			t.Errorf("%d: %s, not %s", n, got, want)
		}
	}
	// By prefixes, not as they stand there.
	for n, want := range map[int]string{2: "xml=XML", 3: "=u xml=XML", 4: "=3 b=2 xml=XML z=1", 5: "=3 a=4 b=2 xml=XML z=5"} {
		var all []string
		for _, p := range Spaces(d, n) {
			_, prefix, _ := Name(d, p)
			all = append(all, prefix+"="+strings.ReplaceAll(Text(d, p), xmlSpace, "XML"))
		}
		if got := strings.Join(all, " "); got != want {
			t.Errorf("%d: %s, not %s", n, got, want)
		}
	}
}

// TestText has comments, instructions and elements between Texts, and values that aren't texts of the document.
func TestText(t *testing.T) {
	for s, want := range map[string][]string{
		"<a/>":                            {"", ""},
		"<a>x</a>":                        {"x", "x", "x"},
		"<a b='1'>x</a>":                  {"x", "x", "x"},
		"<a>x<!--y-->z</a>":               {"xz", "xz", "x", "y", "z"},
		"<a>x<?y w?>z</a>":                {"xz", "xz", "x", "w", "z"},
		"<a>x<b>y</b>z</a>":               {"xyz", "xyz", "x", "y", "y", "z"},
		"<a><b/>x<b/></a>":                {"x", "x", "", "x", ""},
		"<a><b><c>x</c>y</b><d>z</d></a>": {"xyz", "xyz", "xy", "x", "x", "y", "z", "z"},
		"<!--x--><a>y</a><?x z?>":         {"y", "x", "y", "y", "z"},
		"<a> <b>\n</b>\t</a>":             {" \n\t", " \n\t", " ", "\n", "\n", "\t"},
		"<a>\u00e9<b>\U00010000</b></a>":  {"\u00e9\U00010000", "\u00e9\U00010000", "\u00e9", "\U00010000", "\U00010000"},
	} {
		d := document(t, s)
		if d.Len() != len(want) {
			t.Fatalf("%s has %d nodes", s, d.Len())
		}
		for n, w := range want {
			if got := Text(d, self(n)); got != w {
				t.Errorf("%s, %d: %q, not %q", s, n, got, w)
			}
		}
		checkWords(t, d)
	}
}

// someNumbers are numbers of which there is no node.
var someNumbers = []int{-1, -2, -64, math.MinInt32, math.MinInt, math.MinInt + 1, 1 << 20, math.MaxInt32, math.MaxInt - 1, math.MaxInt}

// notThere fails if p is a point of d, or something is said of it.
func notThere(t *testing.T, d *doc.Doc, p api.Point) {
	t.Helper()
	prefix, local, uri := Name(d, p)
	if Has(d, p) || prefix+local+uri != "" || Text(d, p) != "" || Kind(d, p) != -1 {
		t.Errorf("%v: %v, %q, %q, %q, %q, %d", p, Has(d, p), prefix, local, uri, Text(d, p), Kind(d, p))
	}
	if above, ok := Parent(d, p); above != (api.Point{}) || ok {
		t.Errorf("%v: %v, %v", p, above, ok)
	}
}

// TestNotThere has nodes that there aren't, Parts that there aren't, and an I that there isn't.
func TestNotThere(t *testing.T) {
	d := document(t, someDocument)
	numbers := append(slices.Clone(someNumbers), d.Len(), d.Len()+1, d.Len()+64)
	for _, n := range numbers {
		for part := range 3 {
			for i := range 3 {
				notThere(t, d, api.Point{N: n, Part: part, I: i})
			}
		}
		if len(Marks(d, n)) != 0 || len(Spaces(d, n)) != 0 {
			t.Errorf("%d: %v, %v", n, Marks(d, n), Spaces(d, n))
		}
	}
	counts := map[int][2]int{3: {3, 3}, 7: {3, 1}, 10: {4, 0}, 11: {3, 0}}
	for n := range d.Len() {
		for _, i := range someNumbers {
			for part := range 3 {
				notThere(t, d, api.Point{N: n, Part: part, I: i})
			}
			for _, part := range append(slices.Clone(someNumbers), 3, 4, 64) {
				notThere(t, d, api.Point{N: n, Part: part})
				notThere(t, d, api.Point{N: n, Part: part, I: i})
			}
		}
		// Of nodes that are no elements there are none.
		for i := range 70 {
			if i > 0 {
				notThere(t, d, selfAt(n, i))
			}
			if i >= counts[n][0] {
				notThere(t, d, namespace(n, i))
			}
			if i >= counts[n][1] {
				notThere(t, d, mark(n, i))
			}
		}
	}
}

// selfAt is no point, as its I isn't 0.
func selfAt(n, i int) api.Point { return api.Point{N: n, I: i} }

// TestNil is R1: a nil document, and one that is made by hand, have no points.
func TestNil(t *testing.T) {
	numbers := append([]int{0, 1, 2, 3}, someNumbers...)
	for _, d := range []*doc.Doc{nil, {}} {
		if l := All(d); len(l) != 0 {
			t.Error(l)
		}
		for _, n := range numbers {
			if len(Marks(d, n)) != 0 || len(Spaces(d, n)) != 0 {
				t.Errorf("%d: %v, %v", n, Marks(d, n), Spaces(d, n))
			}
			for _, part := range numbers {
				for _, i := range numbers {
					notThere(t, d, api.Point{N: n, Part: part, I: i})
				}
			}
		}
	}
}
