package ident

import (
	"slices"
	"strconv"
	"strings"
	"testing"

	"apostille/api"
	"apostille/doc"
	"apostille/parse"
)

const xmlSpace = "http://www.w3.org/XML/1998/namespace"

// document is the document of the bytes s.
func document(t *testing.T, s string) *doc.Doc {
	t.Helper()
	d, e := parse.Parse([]byte(s))
	if e != api.OK {
		t.Fatalf("%.200q: %v", s, e)
	}
	return d
}

// documentOf is the document of the nodes l.
func documentOf(t *testing.T, l []api.Node) *doc.Doc {
	t.Helper()
	d, e := doc.Of(l)
	if e != api.OK {
		t.Fatalf("%.200v: %v", l, e)
	}
	return d
}

// index is the index of d.
func index(t *testing.T, d *doc.Doc) *Index {
	t.Helper()
	x, e := Of(d)
	if x == nil || e != api.OK {
		t.Fatalf("%.200v: %v", d.Nodes(), e)
	}
	return x
}

// identifiers fails if the index of s has others than want, or in another order.
func identifiers(t *testing.T, s string, want ...string) *Index {
	t.Helper()
	d := document(t, s)
	x := index(t, d)
	if all := x.All(); !slices.Equal(all, want) {
		t.Errorf("%s: %q, not %q", s, all, want)
	}
	checkWords(t, d)
	return x
}

// found fails if n isn't called id.
func found(t *testing.T, x *Index, id string, n int) {
	t.Helper()
	if got, ok := x.Find(id); got != n || !ok {
		t.Errorf("%q: %d, %v, not %d", id, got, ok, n)
	}
}

// notFound fails if something is called by one of these, or something stands beside false.
func notFound(t *testing.T, x *Index, ids ...string) {
	t.Helper()
	for _, id := range ids {
		if got, ok := x.Find(id); got != 0 || ok {
			t.Errorf("%q: %d, %v", id, got, ok)
		}
	}
}

// twice fails if the document s has an index.
func twice(t *testing.T, s string) {
	t.Helper()
	d := document(t, s)
	if x, e := Of(d); x != nil || e != api.ErrTwice {
		t.Errorf("%s: %v, %v", s, x, e)
	}
	checkWords(t, d)
}

func TestExample(t *testing.T) {
	x := identifiers(t, "<a Id='x'><b id='y'/></a>", "x", "y")
	found(t, x, "x", 1)
	found(t, x, "y", 2)
}

// TestNames has each attribute that names, at the Root's element and below it, alone and among others.
func TestNames(t *testing.T) {
	for _, a := range []string{"Id", "ID", "id", "xml:id"} {
		for s, n := range map[string]int{
			"<a " + a + "='i'/>":                                         1,
			"<a><b " + a + "='i'/></a>":                                  2,
			"<!--1--><?i 2?><a>t<b/><c " + a + "='i'>u</c></a>":          6,
			"<a xmlns='u' xmlns:p='v'><p:b x='1' " + a + "='i'/></a>":    2,
			"<a " + a + "='i' x='y' xml:lang='z' p:id='w' xmlns:p='u'/>": 1,
		} {
			x := identifiers(t, s, "i")
			found(t, x, "i", n)
			notFound(t, x, "", "y", "z", "w", "1", "u", "v", a, "I")
		}
	}
}

// TestDoesNotName has attributes and others that are near to one that names.
func TestDoesNotName(t *testing.T) {
	for _, a := range []string{
		"iD", "Ids", "IDs", "ids", "idx", "xid", "xId", "i", "I", "d", "D", "iId", "Idd", "id-", "id.", "id1", "_id", "ıd", "İd", "ïd", "name", "x",
		"xml:Id", "xml:ID", "xml:iD", "xml:ids", "xml:i", "xml:lang", "xml:xml", "xml:xid",
		"p:Id", "p:ID", "p:id", "p:iD", "p:xml", "id:id", "id:x", "Id:ID", "ID:id",
		"q:id", "r:id", "s:id", "s:Id", "v:id",
		"xmlns", "xmlns:Id", "xmlns:ID", "xmlns:ids",
	} {
		s := "<a xmlns:p='u' xmlns:q='" + xmlSpace + "/' xmlns:r='" + xmlSpace[:len(xmlSpace)-1] + "' xmlns:s='" + strings.ToUpper(xmlSpace) + "' xmlns:v='xml' xmlns:id='u' xmlns:Id='u' xmlns:ID='u'><b " + a + "='i'/></a>"
		notFound(t, identifiers(t, s), "i", "", "u", "xml", a)
		x := identifiers(t, strings.Replace(s, "<b ", "<b Id='j' ", 1), "j")
		found(t, x, "j", 2)
		notFound(t, x, "i")
	}
	notFound(t, identifiers(t, "<id>i<Id>j</Id><ID/><?id k?><!--id='l'--><?Id?></id>"), "i", "j", "k", "l", "id", "")
	notFound(t, identifiers(t, "<id xmlns='i'><p:id xmlns:p='j'/><xml:id/></id>"), "i", "j", "id", xmlSpace)
}

func TestNoAttributes(t *testing.T) {
	for _, s := range []string{"<a/>", "<a>i</a>", "<a><b/><c>t</c></a>", "<!--i--><a/>", "<a x='i'/>"} {
		notFound(t, identifiers(t, s), "i", "", "a", "x", "0", "1", "t")
	}
}

// TestTwice has two that name with one Value at one element, apart, side by side and one within the other.
func TestTwice(t *testing.T) {
	all := []string{"Id", "ID", "id", "xml:id"}
	for _, v := range []string{"x", "", " ", "é", "a b"} {
		for _, one := range all {
			for _, other := range all {
				a, b := one+"='"+v+"'", other+"='"+v+"'"
				if one != other {
					twice(t, "<a "+a+" "+b+"/>")
					twice(t, "<a><b y='1' "+a+" x='2' "+b+"/></a>")
				}
				twice(t, "<a "+a+"><b "+b+"/></a>")
				twice(t, "<a><b "+a+"/><c "+b+"/></a>")
				twice(t, "<a><b "+a+"><c/></b>t<d><e><f "+b+"/></e></d></a>")
				twice(t, "<a><b><c><d "+a+"/></c></b><e "+b+"/></a>")
				twice(t, "<a "+a+"><b><c><d "+b+"/></c></b></a>")
				twice(t, "<a Id='1'><b Id='2' "+strings.Replace(a, "Id=", "ID=", 1)+"/><c Id='3'/><d id='4'/><e "+b+"/><f Id='5'/></a>")
			}
		}
	}
	twice(t, "<a Id='x'><b Id='y'/><c Id='x'/><d Id='y'/></a>")
	twice(t, "<a Id='x'><b Id='x'/><c Id='x'/></a>")
	twice(t, "<a Id='x' ID='x' id='x' xml:id='x'/>")
	// By what they say, not by how it is written.
	twice(t, "<a Id='x'><b Id=\"x\"/></a>")
	twice(t, "<a Id='A'><b Id='&#65;'/></a>")
	twice(t, "<a Id='a b'><b Id='a\nb'/></a>")
	twice(t, "<a Id='a b'><b Id='a&#32;b'/></a>")
}

// TestNotTwice has Values that are the same at one that names and one that doesn't, and Values that differ.
func TestNotTwice(t *testing.T) {
	for _, a := range []string{"iD", "Ids", "x", "xml:Id", "xml:ID", "xml:lang", "p:id", "p:Id", "p:ID"} {
		for s, n := range map[string]int{
			"<a xmlns:p='u' Id='i' " + a + "='i'/>":                   1,
			"<a xmlns:p='u' " + a + "='i' id='i'/>":                   1,
			"<a xmlns:p='u' " + a + "='i'><b ID='i'/></a>":            2,
			"<a xmlns:p='u' Id='i'><b " + a + "='i'/></a>":            1,
			"<a xmlns:p='u'><b " + a + "='i'/><c xml:id='i'/></a>":    3,
			"<a xmlns:p='u'><b Id='i'/><c><d " + a + "='i'/></c></a>": 2,
		} {
			found(t, identifiers(t, s, "i"), "i", n)
		}
	}
	found(t, identifiers(t, "<a Id='i' xmlns:p='i'>i<!--i--><?i i?><i xmlns='i'/></a>", "i"), "i", 1)
	identifiers(t, "<a Id='x'><b Id='X'/><c Id='x '/><d Id=' x'/><e Id='xx'/><f Id=''/></a>", "", " x", "X", "x", "x ", "xx")
	identifiers(t, "<a Id=' ' ID='&#9;' id='&#10;' xml:id='&#13;'/>", "\t", "\n", "\r", " ")
	// The same to those who read them, not the same characters.
	identifiers(t, "<a Id='&#xE9;'><b Id='e&#x301;'/></a>", "e\u0301", "\u00e9")
}

// TestOneElement has an element that is called by several.
func TestOneElement(t *testing.T) {
	x := identifiers(t, "<a><b xml:id='d' id='c' ID='b' Id='a'/></a>", "a", "b", "c", "d")
	for _, id := range []string{"a", "b", "c", "d"} {
		found(t, x, id, 2)
	}
	x = identifiers(t, "<a Id='x' ID='xy'><b id='' xml:id='z'/></a>", "", "x", "xy", "z")
	found(t, x, "x", 1)
	found(t, x, "xy", 1)
	found(t, x, "", 2)
	found(t, x, "z", 2)
}

// TestNear asks for what begins as an identifier does, for one with more behind it, and such.
func TestNear(t *testing.T) {
	x := identifiers(t, "<a Id='abc'><b Id='abcde'/><c Id='b'/><d x='no'/></a>", "abc", "abcde", "b")
	found(t, x, "abc", 1)
	found(t, x, "abcde", 2)
	found(t, x, "b", 3)
	notFound(t, x, "", "a", "ab", "abcd", "abcdef", "bc", "c", "abcabc", " abc", "abc ", "Abc", "ABC", "B", "abc\x00", "abc\xff", "\xff", "no", "#abc", "&abc;")
}

// TestEmpty has an element that is called "", which is an identifier like others.
func TestEmpty(t *testing.T) {
	x := identifiers(t, "<a><b Id=''/></a>", "")
	found(t, x, "", 2)
	notFound(t, x, " ", "\x00", "b")
	notFound(t, identifiers(t, "<a><b Id='x'/></a>", "x"), "")
	notFound(t, identifiers(t, "<a x=''/>"), "")
}

// TestCharacters has identifiers with blanks, and with characters of more than one byte.
func TestCharacters(t *testing.T) {
	for written, id := range map[string]string{
		" ": " ", "  ": "  ", " a": " a", "a ": "a ", "a b": "a b", "a\tb": "a b", "&#9;": "\t", "&#10;": "\n", "&#13;": "\r",
		"é": "é", "€": "€", "𝄞": "𝄞", "aé€𝄞z": "aé€𝄞z", "&#xE9;": "é", "&#x10FFFF;": "\U0010ffff", "&lt;&amp;&quot;": "<&\"",
		"#x": "#x", "1": "1", "a:b": "a:b", "-": "-", strings.Repeat("long", 1000): strings.Repeat("long", 1000),
	} {
		x := identifiers(t, "<a><b Id='"+written+"'/></a>", id)
		found(t, x, id, 2)
		notFound(t, x, id+id, id+"x", id[1:], id[:len(id)-1]+"\x00")
	}
}

// texts rise byte by byte, which is another order than that of letters, of lengths, and of UTF-16.
var texts = []string{
	"", "\t", "\n", "\r", " ", "  ", " a", "!", "#x", "-1", "0", "1", "10", "100", "11", "2", "9", ":", "A", "AA", "Aa", "B", "Z", "_",
	"a", "a ", "a b", "a-b", "a.b", "a0", "aA", "aa", "aaa", "ab", "az", "aé", "b", "ba", "z", "zz", "~",
	"\u007f", "\u0080", "ä", "é", "éa", "ÿ", "Ā", "߿", "ࠀ", "€", "\ud7ff", "\ue000", "ﬀ", "\ufffd", "\U00010000", "𝄞", "\U0010ffff",
}

// elements is a list of elements side by side, called by ids.
func elements(ids ...string) []api.Node {
	l := []api.Node{{Kind: api.Root, Parent: -1}, {Kind: api.Element, Parent: 0, Local: "a"}}
	for _, id := range ids {
		l = append(l, api.Node{Kind: api.Element, Parent: 1, Local: "b", Attrs: []api.Attr{{Local: "Id", Value: id}}})
	}
	return l
}

// TestAllRises has all texts in several orders, and each two of them.
func TestAllRises(t *testing.T) {
	for step := 1; step < len(texts); step++ {
		var ids []string
		for at := range step {
			for i := at; i < len(texts); i += step {
				ids = append(ids, texts[i])
			}
		}
		slices.Reverse(ids)
		d := documentOf(t, elements(ids...))
		x := index(t, d)
		if all := x.All(); !slices.Equal(all, texts) {
			t.Errorf("%q", all)
		}
		for i, id := range ids {
			found(t, x, id, i+2)
		}
		checkWords(t, d)
	}
	for i, a := range texts {
		for _, b := range texts[i+1:] {
			for _, ids := range [][]string{{a, b}, {b, a}} {
				x := index(t, documentOf(t, elements(ids...)))
				if all := x.All(); !slices.Equal(all, []string{a, b}) {
					t.Errorf("%q", all)
				}
				found(t, x, ids[0], 2)
				found(t, x, ids[1], 3)
			}
		}
		x, e := Of(documentOf(t, elements(a, a)))
		if x != nil || e != api.ErrTwice {
			t.Errorf("%q: %v", a, e)
		}
	}
}

// TestMost has as many nodes as there may be, of four identifiers each, and one of them again at the end.
func TestMost(t *testing.T) {
	l := elements(make([]string, api.MaxNodes-2)...)
	var want []string
	for n := range l {
		if n > 0 {
			id := strconv.Itoa((n * 1999) % 4000)
			l[n].Attrs = []api.Attr{{Local: "Id", Value: "a" + id}, {Local: "ID", Value: "b" + id}, {Local: "id", Value: "c" + id}, {Prefix: "xml", Local: "id", URI: xmlSpace, Value: "d" + id}}
			want = append(want, "a"+id, "b"+id, "c"+id, "d"+id)
		}
	}
	x := index(t, documentOf(t, l))
	for i, id := range want {
		found(t, x, id, i/4+1)
	}
	notFound(t, x, "", "a", "a4000", "e1", "0", "a0 ")
	slices.Sort(want)
	if !slices.Equal(x.All(), want) {
		t.Error("not all, or not rising")
	}
	l[len(l)-1].Attrs[3].Value = l[1].Attrs[0].Value
	if x, e := Of(documentOf(t, l)); x != nil || e != api.ErrTwice {
		t.Error(e)
	}
}

// TestDeepest has elements as deep as they may be, and as many attributes as there may be at each.
func TestDeepest(t *testing.T) {
	l := []api.Node{{Kind: api.Root, Parent: -1}}
	for n := 1; n <= api.MaxDepth; n++ {
		x := api.Node{Kind: api.Element, Parent: n - 1, Local: "a"}
		for i := 1; i < api.MaxMarks; i++ {
			x.Attrs = append(x.Attrs, api.Attr{Local: "x" + strconv.Itoa(i), Value: "same"})
		}
		x.Attrs = append(x.Attrs, api.Attr{Local: "ID", Value: strconv.Itoa(n)})
		l = append(l, x)
	}
	x := index(t, documentOf(t, l))
	for n := 1; n <= api.MaxDepth; n++ {
		found(t, x, strconv.Itoa(n), n)
	}
	notFound(t, x, "same", "0", strconv.Itoa(api.MaxDepth+1))
	l[api.MaxDepth].Attrs[api.MaxMarks-1].Value = "1"
	if x, e := Of(documentOf(t, l)); x != nil || e != api.ErrTwice {
		t.Error(e)
	}
}

// TestNil is R1: there is no document, no index, or one that is made by hand.
func TestNil(t *testing.T) {
	if x, e := Of(nil); x != nil || e != api.ErrArg {
		t.Error(x, e)
	}
	none := index(t, &doc.Doc{})
	for _, x := range []*Index{nil, {}, {Doc: document(t, "<a Id='x'/>")}, {Doc: &doc.Doc{}}, none} {
		notFound(t, x, append(texts, "x", "\xff", "\x00", "\xc3")...)
		if all := x.All(); len(all) != 0 {
			t.Errorf("%q", all)
		}
	}
	checkPromoted(t, none, none.Doc)
	checkPromoted(t, &Index{}, nil)
}

// someDocument has all kinds of nodes, and identifiers of all kinds, which don't rise.
const someDocument = "<!--x--><a xmlns:p='u' Id='z' p:id='z'>t<b id='y' ID='w'><!--b--><c xml:id='' iD='y'/></b><?i w?><d xmlns='v' x='1' id='é'/></a><?j?>"

// TestPromoted is that an index is its document: what it answers beside its own calls are the document's.
func TestPromoted(t *testing.T) {
	for _, s := range []string{"<a/>", "<a Id='x'><b id='y'/></a>", someDocument} {
		d := document(t, s)
		x := index(t, d)
		checkPromoted(t, x, d)
		// What is answered of an index is answered of its document, and this may be handed over again.
		again := index(t, x.Doc)
		if again == x || again.Doc != d || !slices.Equal(again.All(), x.All()) {
			t.Error(again.All())
		}
	}
	x := index(t, document(t, someDocument))
	n, _ := x.Find("")
	if x.Node(n).Local != "c" || len(x.Up(n)) != 3 || x.End(n) != n+1 {
		t.Error(x.Node(n), x.Up(n), x.End(n))
	}
}
