package space

import (
	"math"
	"strconv"
	"strings"
	"testing"

	"apostille/api"
	"apostille/doc"
	"apostille/parse"
)

const xmlSpace = "http://www.w3.org/XML/1998/namespace"

// document is the document of the bytes s.
func document(t *testing.T, s string) *doc.Doc {
	t.Helper()
	d, e := parse.Parse([]byte(s))
	if e != api.OK {
		t.Fatalf("%.200q: %v", s, e)
	}
	return d
}

// documentOf is the document of the nodes l.
func documentOf(t *testing.T, l []api.Node) *doc.Doc {
	t.Helper()
	d, e := doc.Of(l)
	if e != api.OK {
		t.Fatalf("%.200v: %v", l, e)
	}
	return d
}

// tell writes l as "prefix=URI", in its order, and XML for the URI of xml.
func tell(l []api.Decl) string {
	var all []string
	for _, x := range l {
		all = append(all, x.Prefix+"="+strings.ReplaceAll(x.URI, xmlSpace, "XML"))
	}
	return strings.Join(all, " ")
}

// scopes fails if what is in scope at the nodes of s, which has elements alone, isn't as want tells, from 1 on.
func scopes(t *testing.T, s string, want ...string) {
	t.Helper()
	d := document(t, s)
	if d.Len() != len(want)+1 {
		t.Fatalf("%s has %d nodes, not %d", s, d.Len(), len(want)+1)
	}
	for i, w := range want {
		if got := tell(Scope(d, i+1)); got != w {
			t.Errorf("%s, %d: %s, not %s", s, i+1, got, w)
		}
	}
	checkWords(t, d)
}

// found fails if prefix isn't in scope at n, or means something else there.
func found(t *testing.T, d *doc.Doc, n int, prefix, uri string) {
	t.Helper()
	if got, ok := Find(d, n, prefix); got != uri || !ok {
		t.Errorf("%q at %d: %q, %v, not %q", prefix, n, got, ok, uri)
	}
}

// notFound fails if one of the prefixes is in scope at n, or something stands beside false.
func notFound(t *testing.T, d *doc.Doc, n int, prefixes ...string) {
	t.Helper()
	for _, p := range prefixes {
		if got, ok := Find(d, n, p); got != "" || ok {
			t.Errorf("%q at %d: %q, %v", p, n, got, ok)
		}
	}
}

func TestExample(t *testing.T) {
	d := document(t, "<a/>")
	l := Scope(d, 1)
	if len(l) != 1 || l[0] != (api.Decl{Prefix: "xml", URI: xmlSpace}) {
		t.Error(l)
	}
}

func TestNoDeclarations(t *testing.T) {
	scopes(t, "<a/>", "xml=XML")
	scopes(t, "<a><b><c/></b><d/></a>", "xml=XML", "xml=XML", "xml=XML", "xml=XML")
	scopes(t, "<a x='1' y='2'><b z='p'/></a>", "xml=XML", "xml=XML")
	scopes(t, "<xml:a xml:b='c'/>", "xml=XML")
}

// TestNearest has declarations of an element's own and of those above it.
func TestNearest(t *testing.T) {
	scopes(t, "<a xmlns:p='u'/>", "p=u xml=XML")
	scopes(t, "<a xmlns:p='u'><b/></a>", "p=u xml=XML", "p=u xml=XML")
	scopes(t, "<a><b xmlns:p='u'/></a>", "xml=XML", "p=u xml=XML")
	scopes(t, "<a xmlns:p='u'><b xmlns:p='v'/></a>", "p=u xml=XML", "p=v xml=XML")
	scopes(t, "<a xmlns:p='u'><b xmlns:p='u'/></a>", "p=u xml=XML", "p=u xml=XML")
	scopes(t, "<a xmlns:p='u'><b xmlns:p='v'><c xmlns:p='u'><d/></c></b></a>", "p=u xml=XML", "p=v xml=XML", "p=u xml=XML", "p=u xml=XML")
	scopes(t, "<a xmlns:p='u'><b xmlns:p='v'><c/></b><d/></a>", "p=u xml=XML", "p=v xml=XML", "p=v xml=XML", "p=u xml=XML")
	scopes(t, "<a xmlns:p='u'><b xmlns:q='v'><c xmlns:r='w'/></b></a>", "p=u xml=XML", "p=u q=v xml=XML", "p=u q=v r=w xml=XML")
	scopes(t, "<a xmlns:p='u' xmlns:q='u'><b xmlns:q='v'/></a>", "p=u q=u xml=XML", "p=u q=v xml=XML")
	scopes(t, "<a xmlns:z='u'><b xmlns:p='u'/></a>", "xml=XML z=u", "p=u xml=XML z=u")
	scopes(t, "<a xmlns:p='u'><b xmlns:P='v'/></a>", "p=u xml=XML", "P=v p=u xml=XML")
}

// TestBeside has declarations that stand beside an element, or below it: they say nothing of it.
func TestBeside(t *testing.T) {
	scopes(t, "<a><b xmlns:p='u'/><c/><d xmlns='v'/><e/></a>", "xml=XML", "p=u xml=XML", "xml=XML", "=v xml=XML", "xml=XML")
	scopes(t, "<a><b><c xmlns:p='u' xmlns='v'/></b><d/></a>", "xml=XML", "xml=XML", "=v p=u xml=XML", "xml=XML")
	scopes(t, "<a xmlns:p='u'><b xmlns:p='v' xmlns:q='w'><c xmlns:p='x'/></b><d><e/></d></a>", "p=u xml=XML", "p=v q=w xml=XML", "p=x q=w xml=XML", "p=u xml=XML", "p=u xml=XML")
	d := document(t, "<a xmlns:a='u'><b xmlns:b='u'><c xmlns:c='u'/></b><d xmlns:d='u'/></a>")
	notFound(t, d, 1, "b", "c", "d")
	notFound(t, d, 2, "c", "d")
	notFound(t, d, 3, "d")
	notFound(t, d, 4, "b", "c")
}

// TestDefault has "" declared, declared as "" below that, and declared again below that.
func TestDefault(t *testing.T) {
	scopes(t, "<a xmlns='u'/>", "=u xml=XML")
	scopes(t, "<a xmlns=''/>", "xml=XML")
	scopes(t, "<a xmlns='u'><b/></a>", "=u xml=XML", "=u xml=XML")
	scopes(t, "<a xmlns='u'><b xmlns=''><c/></b><d/></a>", "=u xml=XML", "xml=XML", "xml=XML", "=u xml=XML")
	scopes(t, "<a xmlns='u'><b xmlns=''><c xmlns='v'><d xmlns=''/></c></b></a>", "=u xml=XML", "xml=XML", "=v xml=XML", "xml=XML")
	scopes(t, "<a xmlns='u'><b xmlns=''><c xmlns='u'><d/></c></b></a>", "=u xml=XML", "xml=XML", "=u xml=XML", "=u xml=XML")
	scopes(t, "<a xmlns=''><b xmlns=''><c xmlns='u'/></b></a>", "xml=XML", "xml=XML", "=u xml=XML")
	scopes(t, "<a xmlns='u' xmlns:p='u'><b xmlns='' xmlns:q='v'/></a>", "=u p=u xml=XML", "p=u q=v xml=XML")
	scopes(t, "<p:a xmlns:p='u'><b/></p:a>", "p=u xml=XML", "p=u xml=XML")
	// An attribute that looks like it isn't a declaration.
	scopes(t, "<a xml:xmlns='u' xmlnsp='v' XMLNS='w'/>", "xml=XML")
}

// TestXml has xml, declared or not.
func TestXml(t *testing.T) {
	xml := " xmlns:xml='" + xmlSpace + "'"
	scopes(t, "<a"+xml+"/>", "xml=XML")
	scopes(t, "<a"+xml+"><b/></a>", "xml=XML", "xml=XML")
	scopes(t, "<a><b"+xml+"/><c/></a>", "xml=XML", "xml=XML", "xml=XML")
	scopes(t, "<a"+xml+"><b"+xml+"><c"+xml+"/></b></a>", "xml=XML", "xml=XML", "xml=XML")
	scopes(t, "<a xmlns:z='u'"+xml+" xmlns='v' xmlns:p='w'><b"+xml+"/></a>", "=v p=w xml=XML z=u", "=v p=w xml=XML z=u")
	scopes(t, "<a xmlns:xm='u' xmlns:xmlx='v' xmlns:XML='w'/>", "XML=w xm=u xml=XML xmlx=v")
}

// TestFind is what prefixes mean, of those that are in scope and others.
func TestFind(t *testing.T) {
	d := document(t, "<a xmlns:p='u' xmlns:q='v'><b xmlns='w' xmlns:p='x'><c xmlns='' xmlns:pp='y'><d xmlns='z'/></c></b><e/></a>")
	for n, want := range map[int]map[string]string{
		1: {"p": "u", "q": "v"},
		2: {"": "w", "p": "x", "q": "v"},
		3: {"p": "x", "pp": "y", "q": "v"},
		4: {"": "z", "p": "x", "pp": "y", "q": "v"},
		5: {"p": "u", "q": "v"},
	} {
		found(t, d, n, "xml", xmlSpace)
		for _, p := range []string{"", "p", "pp", "q"} {
			if uri, ok := want[p]; ok {
				found(t, d, n, p, uri)
			} else {
				notFound(t, d, n, p)
			}
		}
		// The names of elements, URIs, and what isn't a prefix at all.
		notFound(t, d, n, "xmlns", "a", "b", "u", "w", "P", "XML", "Xml", "xm", "xmlx", " p", "p ", "ppp", "p:q", ":", "xmlns:p", "xmlns:xml", "\x00", "\xff", "p\x00", xmlSpace, strings.Repeat("p", 1<<20))
	}
	checkWords(t, d)
}

// TestFindXml is what xml and xmlns mean, and "" without a declaration.
func TestFindXml(t *testing.T) {
	for _, s := range []string{"<a/>", "<xml:a/>", "<a xmlns:xml='" + xmlSpace + "'/>", "<a xmlns=''/>", "<a xmlns:p='u'/>"} {
		d := document(t, s)
		found(t, d, 1, "xml", xmlSpace)
		notFound(t, d, 1, "xmlns", "")
	}
}

var someNumbers = []int{-1, -2, -64, math.MinInt32, math.MinInt, math.MinInt + 1, 1 << 20, math.MaxInt32, math.MaxInt - 1, math.MaxInt}

// nothing fails if something is in scope at n.
func nothing(t *testing.T, d *doc.Doc, n int) {
	t.Helper()
	if l := Scope(d, n); len(l) != 0 {
		t.Errorf("%d: %v", n, l)
	}
	notFound(t, d, n, "", "p", "q", "xml", "xmlns", "\xff")
}

// TestNoElements has nodes that are no elements, and numbers that are no nodes.
func TestNoElements(t *testing.T) {
	d := document(t, "<!--c--><?i t?><a xmlns='u' xmlns:p='v'>t<!--c--><?i t?><b xmlns:q='w'>t</b>t</a><!--c--><?i?>")
	elements := map[int]string{3: "=u p=v xml=XML", 7: "=u p=v q=w xml=XML"}
	for n := -70; n < d.Len()+70; n++ {
		want, ok := elements[n]
		if !ok {
			nothing(t, d, n)
		} else if got := tell(Scope(d, n)); got != want {
			t.Errorf("%d: %s, not %s", n, got, want)
		}
	}
	for _, n := range someNumbers {
		nothing(t, d, n)
		nothing(t, d, d.Len()+n)
	}
}

// TestNil is R1: of a nil document, and of one that is made by hand, nothing is in scope.
func TestNil(t *testing.T) {
	for _, d := range []*doc.Doc{nil, {}} {
		for n := -3; n <= 70; n++ {
			nothing(t, d, n)
		}
		for _, n := range someNumbers {
			nothing(t, d, n)
		}
	}
}

// rising are prefixes, byte by byte.
var rising = []string{"", "A", "XML", "_", "a", "a-", "a.", "a.a", "a0", "a00", "a1", "a10", "a2", "aA", "a_", "aa", "aa-", "ab", "a\u00e9", "b", "x", "xm", "xmL", "xmk", "xml", "xml-", "xmla", "xmlns-", "xmm", "xn", "y", "ya", "z", "\u00c9", "\u00e9", "\u00e9a", "\u0431", "\u6587", "\uf900", "\ufffd", "\U00010000", "\U00010000a", "\U000effff"}

// TestRising has declarations in several orders, of one element and of two.
func TestRising(t *testing.T) {
	var want []api.Decl
	for i, p := range rising {
		x := api.Decl{Prefix: p, URI: "u" + strconv.Itoa(len(rising)-i)}
		if p == "xml" {
			x.URI = xmlSpace
		}
		want = append(want, x)
	}
	for turn := range want {
		for _, step := range []int{1, 2, 5, len(want) - 1} {
			var said []api.Decl
			for i := range want {
				said = append(said, want[(turn+i*step)%len(want)])
			}
			half := len(said) / 2
			d := documentOf(t, []api.Node{
				{Parent: -1}, {Kind: api.Element, Prefix: "xml", URI: xmlSpace, Local: "a", Decls: said},
				{Kind: api.Element, Parent: 1, Prefix: "xml", URI: xmlSpace, Local: "b"},
				{Kind: api.Element, Parent: 1, Prefix: "xml", URI: xmlSpace, Local: "c", Decls: said[half:]},
			})
			parted := documentOf(t, []api.Node{
				{Parent: -1}, {Kind: api.Element, Prefix: "xml", URI: xmlSpace, Local: "a", Decls: said[half:]},
				{Kind: api.Element, Parent: 1, Prefix: "xml", URI: xmlSpace, Local: "b", Decls: said[:half]},
			})
			got := []string{tell(Scope(d, 1)), tell(Scope(d, 2)), tell(Scope(d, 3)), tell(Scope(parted, 2))}
			for i, s := range got {
				if s != tell(want) {
					t.Fatalf("%d, %d: %s", turn, i, s)
				}
			}
			checkWords(t, parted)
		}
	}
}

// TestSorts is that Scope has the order of Sorted.
func TestSorts(t *testing.T) {
	d := document(t, "<a xmlns='u' xmlns:z='1' xmlns:b='2' xmlns:xmk='3'><b xmlns:a='4' xmlns:b='0'/></a>")
	for n := range d.Len() {
		l := Scope(d, n)
		if tell(Sorted(l...)) != tell(l) {
			t.Error(n, l)
		}
	}
}
