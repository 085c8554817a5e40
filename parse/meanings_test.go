package parse

import (
	"testing"

	"apostille/api"
)

const xmlnsSpace = "http://www.w3.org/2000/xmlns/"

// with lays declarations and attributes to x.
func with(x api.Node, l []api.Decl, attrs ...api.Attr) api.Node {
	x.Decls, x.Attrs = l, attrs
	return x
}

func TestNearestDeclaration(t *testing.T) {
	// Of an element's own, and of those above it.
	is(t, "<p:a xmlns:p='u'/>", with(named(0, "p", "a", "u"), decls("p", "u")))
	is(t, "<p:a xmlns:p='u'><p:b/></p:a>", with(named(0, "p", "a", "u"), decls("p", "u")), named(1, "p", "b", "u"))
	is(t, "<a xmlns:p='u'><b><p:c/></b></a>", with(element(0, "a"), decls("p", "u")), element(1, "b"), named(2, "p", "c", "u"))
	is(t, "<p:a xmlns:p='u'><p:b xmlns:p='v'><p:c/></p:b><p:d/></p:a>",
		with(named(0, "p", "a", "u"), decls("p", "u")), with(named(1, "p", "b", "v"), decls("p", "v")), named(2, "p", "c", "v"), named(1, "p", "d", "u"))
	is(t, "<p:a xmlns:p='u'><b xmlns:p='v'/><p:c/></p:a>", with(named(0, "p", "a", "u"), decls("p", "u")), with(element(1, "b"), decls("p", "v")), named(1, "p", "c", "u"))
	is(t, "<a xmlns='u'><b xmlns='v'><c/></b><d/></a>", with(named(0, "", "a", "u"), decls("", "u")), with(named(1, "", "b", "v"), decls("", "v")), named(2, "", "c", "v"), named(1, "", "d", "u"))
	is(t, "<a xmlns:p='u' xmlns:q='v'><p:b xmlns:q='w'/><q:b/></a>", with(element(0, "a"), decls("p", "u", "q", "v")), with(named(1, "p", "b", "u"), decls("q", "w")), named(1, "q", "b", "v"))
	is(t, "<a xmlns:p='u'><b xmlns:p='v'><c xmlns:p='u'><p:d/></c><p:e/></b><p:f/></a>", with(element(0, "a"), decls("p", "u")), with(element(1, "b"), decls("p", "v")), with(element(2, "c"), decls("p", "u")), named(3, "p", "d", "u"), named(2, "p", "e", "v"), named(1, "p", "f", "u"))
	// "" declared as "" again.
	is(t, "<a xmlns='u'><b xmlns=''><c/></b><d/></a>", with(named(0, "", "a", "u"), decls("", "u")), with(element(1, "b"), decls("", "")), element(2, "c"), named(1, "", "d", "u"))
	is(t, "<a xmlns='u'><b xmlns=''><c xmlns='v'/></b></a>", with(named(0, "", "a", "u"), decls("", "u")), with(element(1, "b"), decls("", "")), with(named(2, "", "c", "v"), decls("", "v")))
	is(t, "<a xmlns=''/>", with(element(0, "a"), decls("", "")))
	is(t, "<a xmlns=\"\"><b xmlns=''/></a>", with(element(0, "a"), decls("", "")), with(element(1, "b"), decls("", "")))
	// One that stands behind its use in the same tag.
	is(t, "<p:a p:x='1' xmlns:p='u'/>", with(named(0, "p", "a", "u"), decls("p", "u"), api.Attr{Prefix: "p", Local: "x", URI: "u", Value: "1"}))
	is(t, "<a xmlns:p='u'><b p:x='1' xmlns:p='v'/></a>", with(element(0, "a"), decls("p", "u")), with(element(1, "b"), decls("p", "v"), api.Attr{Prefix: "p", Local: "x", URI: "v", Value: "1"}))
	is(t, "<a p:x='1' y='2' q:x='3' xmlns:q='v' xmlns='w' xmlns:p='u'/>", with(named(0, "", "a", "w"), decls("q", "v", "", "w", "p", "u"), api.Attr{Prefix: "p", Local: "x", URI: "u", Value: "1"}, attr("y", "2"), api.Attr{Prefix: "q", Local: "x", URI: "v", Value: "3"}))
	// Of attributes: what is declared of "" isn't meant.
	is(t, "<a xmlns='u' x='1'><b x='1'/></a>", with(named(0, "", "a", "u"), decls("", "u"), attr("x", "1")), with(named(1, "", "b", "u"), nil, attr("x", "1")))
	is(t, "<a xmlns:p='u'><b p:x='1'/></a>", with(element(0, "a"), decls("p", "u")), with(element(1, "b"), nil, api.Attr{Prefix: "p", Local: "x", URI: "u", Value: "1"}))
}

func TestUndeclared(t *testing.T) {
	unformed(t,
		"<p:a/>", "<p:a></p:a>", "<a p:x='1'/>", "<a><p:b/></a>", "<a><b p:x='1'/></a>", "<a p:x=''/>",
		// Declared elsewhere: below, beside, of another prefix, in a text.
		"<p:a><b xmlns:p='u'/></p:a>", "<a p:x='1'><b xmlns:p='u'/></a>", "<a><b xmlns:p='u'/><p:c/></a>", "<a><b xmlns:p='u'></b><p:c/></a>", "<a><b xmlns:p='u'><c/></b><d p:x='1'/></a>", "<a><b xmlns:p='u'><p:c/></b><p:c/></a>",
		"<p:a xmlns='p'/>", "<p:a xmlns='u'/>", "<p:a xmlns:q='p'/>", "<p:a xmlns:P='u'/>", "<P:a xmlns:p='u'/>", "<p:a xmlns:pp='u'/>", "<pp:a xmlns:p='u'/>", "<a xmlns='u' xmlns:q='v' p:x='1'/>", "<a><?xmlns:p 'u'?><p:b/></a>", "<a>xmlns:p='u'<p:b/></a>", "<p:a p='u'/>",
		// No prefix but "" may be declared as "".
		"<a xmlns:p=''/>", `<a xmlns:p=""/>`, "<a xmlns:p='u'><b xmlns:p=''/></a>", "<p:a xmlns:p=''/>", "<a xmlns:xml=''/>", "<a xmlns:p='' xmlns='u'/>",
		// A prefix that is none.
		"<a xmlns:='u'/>", "<a xmlns:1='u'/>", "<a xmlns:p:q='u'/>", "<a :xmlns='u'/>", "<a xmlns: p='u'/>", "<a xmlns :p='u'/>", "<a xmlns::p='u'/>",
	)
}

func TestXmlAndXmlns(t *testing.T) {
	// xml means XML, declared or not.
	is(t, "<xml:a/>", named(0, "xml", "a", xmlSpace))
	is(t, "<a xml:lang='en'/>", element(0, "a", api.Attr{Prefix: "xml", Local: "lang", URI: xmlSpace, Value: "en"}))
	is(t, "<a><xml:b xml:space='x'/></a>", element(0, "a"), with(named(1, "xml", "b", xmlSpace), nil, api.Attr{Prefix: "xml", Local: "space", URI: xmlSpace, Value: "x"}))
	is(t, "<xml:a xmlns:xml='"+xmlSpace+"' xml:x=''/>", with(named(0, "xml", "a", xmlSpace), decls("xml", xmlSpace), api.Attr{Prefix: "xml", Local: "x", URI: xmlSpace}))
	is(t, "<a xmlns:xml='&#104;ttp://www.w3.org/XML/1998/namespace'><b xml:x=''/></a>", with(element(0, "a"), decls("xml", xmlSpace)), element(1, "b", api.Attr{Prefix: "xml", Local: "x", URI: xmlSpace}))
	// Names that are no prefixes.
	is(t, "<xml xml='1'/>", element(0, "xml", attr("xml", "1")))
	is(t, "<xmlns/>", element(0, "xmlns"))
	is(t, "<xmlns xmlns='u'></xmlns>", with(named(0, "", "xmlns", "u"), decls("", "u")))
	is(t, "<p:xmlns xmlns:p='u' p:xmlns='1' p:xml='2'/>", with(named(0, "p", "xmlns", "u"), decls("p", "u"), api.Attr{Prefix: "p", Local: "xmlns", URI: "u", Value: "1"}, api.Attr{Prefix: "p", Local: "xml", URI: "u", Value: "2"}))
	is(t, "<a xml:xmlns='1' xml:xml='2'/>", element(0, "a", api.Attr{Prefix: "xml", Local: "xmlns", URI: xmlSpace, Value: "1"}, api.Attr{Prefix: "xml", Local: "xml", URI: xmlSpace, Value: "2"}))
	// In other letters, and with more letters, they are prefixes as others are.
	is(t, "<XML:a xmlns:XML='u' xmlns:xmlnsa='v' xmlnsa:x='' Xmlns='w' XMLNS:x='' xmlns:XMLNS='t'/>", with(named(0, "XML", "a", "u"), decls("XML", "u", "xmlnsa", "v", "XMLNS", "t"), api.Attr{Prefix: "xmlnsa", Local: "x", URI: "v"}, attr("Xmlns", "w"), api.Attr{Prefix: "XMLNS", Local: "x", URI: "t"}))
	unformed(t,
		// xml declared as another URI, XML as another prefix's.
		"<a xmlns:xml='u'/>", "<a xmlns:xml='"+xmlnsSpace+"'/>", "<a xmlns:xml='"+xmlSpace+"/'/>", "<a xmlns:xml=' "+xmlSpace+"'/>", "<a xmlns:xml='HTTP://www.w3.org/XML/1998/namespace'/>",
		"<a xmlns:p='"+xmlSpace+"'/>", "<p:a xmlns:p='"+xmlSpace+"'/>", "<a xmlns='"+xmlSpace+"'/>", "<a xmlns:p='&#104;ttp://www.w3.org/XML/1998/namespace'/>", "<a xmlns:XML='"+xmlSpace+"'/>",
		// xmlns, declared or not, and XMLNS.
		"<xmlns:a/>", "<a><xmlns:b/></a>", "<a xmlns:xmlns='u'/>", "<a xmlns:xmlns='"+xmlnsSpace+"'/>", "<xmlns:a xmlns:xmlns='"+xmlnsSpace+"'/>", "<xmlns:a xmlns:a='u'/>", "<xmlns:xmlns/>",
		"<a xmlns='"+xmlnsSpace+"'/>", "<a xmlns:p='"+xmlnsSpace+"'/>", "<p:a xmlns:p='"+xmlnsSpace+"'/>", "<b><a xmlns:p='"+xmlnsSpace+"'/></b>", "<a xmlns:p='&#104;ttp://www.w3.org/2000/xmlns/'/>",
		"<a XMLNS:x='1'/>", "<XML:a/>", "<a Xml:lang='en'/>",
	)
	// What is only like them.
	for _, uri := range []string{xmlSpace + "/", xmlnsSpace + "x", "http://www.w3.org/2000/xmlns", " " + xmlSpace, "http://www.w3.org/xml/1998/namespace", "xml", "xmlns", " "} {
		is(t, "<a xmlns='"+uri+"' xmlns:p='"+uri+"'/>", with(named(0, "", "a", uri), decls("", uri, "p", uri)))
	}
}
