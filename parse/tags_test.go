package parse

import (
	"strings"
	"testing"

	"apostille/api"
)

// named is an element with a prefix, which means uri.
func named(parent int, prefix, local, uri string) api.Node {
	return api.Node{Kind: api.Element, Parent: parent, Prefix: prefix, Local: local, URI: uri}
}

// decls are declarations: prefixes, each with a URI behind it.
func decls(said ...string) []api.Decl {
	var l []api.Decl
	for i := 0; i < len(said); i += 2 {
		l = append(l, api.Decl{Prefix: said[i], URI: said[i+1]})
	}
	return l
}

// goodNames and badNames are names without a colon, and what is none.
var (
	goodNames = []string{"a", "A", "_", "a1", "a-", "a.", "a-b.c_d1", "Signature", "\u6587", "\u00e9t\u00e9", "a\u00b7", "a\u0301", "\U00010000", "\ufeffa", "xml", "XML", "xmla", "xmlns", "xmlnsa"}
	badNames  = []string{"1", "1a", "-a", ".a", "\u00b7", "\u0301a", "\u203f", "\u00d7", "a\u00d7", "a!", "a?", "a&", "a&amp;", "a;", "a'", `a"`, "a<", "a<b", "#a", "a#", "a$", "a(", "a,", "a\u00a0", "a\u2028", "@a", "a*", "a|b", "a~", "a%20"}
)

func TestTags(t *testing.T) {
	for _, s := range []string{"<a/>", "<a></a>", "<a />", "<a ></a>", "<a></a >", "<a ></a >"} {
		is(t, s, element(0, "a"))
	}
	for _, b := range everyBlank {
		for _, s := range []string{"<a" + b + "/>", "<a" + b + "></a>", "<a></a" + b + ">", "<a" + b + "></a" + b + ">"} {
			is(t, s, element(0, "a"))
			is(t, "<b>x"+s+"y</b>", element(0, "b"), text(1, "x"), element(1, "a"), text(1, "y"))
		}
		for _, s := range []string{"<" + b + "a/>", "<a/" + b + ">", "<" + b + "a></a>", "<a><" + b + "/a>", "<a></" + b + "a>", "<a" + b + "/" + b + ">", "<a x='1'/" + b + ">", "<a" + b + "b></ab>", "<ab></a" + b + "b>"} {
			unformed(t, s, "<b>"+s+"</b>")
		}
	}
	for _, s := range goodNames {
		is(t, "<"+s+"/>", element(0, s))
		is(t, "<"+s+"></"+s+">", element(0, s))
		is(t, "<"+s+" ></"+s+"\n>", element(0, s))
		is(t, "<"+s+"><"+s+"/><"+s+"></"+s+"></"+s+">", element(0, s), element(1, s), element(1, s))
		is(t, "<a "+strings.Replace(s, "xmlns", "xmlns-", 1)+"='1'/>", element(0, "a", attr(strings.Replace(s, "xmlns", "xmlns-", 1), "1")))
	}
	for _, s := range append([]string{"", ":", ":a", "a:", "a::b", "a:b:c", "::", "p:", ":p", "p:1", "1:p", "p:-", "p: a", "p :a"}, badNames...) {
		for _, d := range []string{"", " xmlns:a='u' xmlns:p='u'"} {
			unformed(t, "<"+s+d+"/>", "<"+s+d+"></"+s+">", "<a"+d+" "+s+"='1'/>", "<a"+d+"><"+s+"/></a>", "<a></a"+s+"-b>")
		}
	}
}

func TestEndTags(t *testing.T) {
	// Another full name, by its local name, by its prefix, or by more and less of it.
	for _, s := range []string{"b", "A", "aa", "ab", "a1", "", "a:a", "p:a", ":a", "a:", " a", "a b", "a/", "/a", "a x='1'", "\u0430", "a\u0301", "&#97;"} {
		unformed(t, "<a></"+s+">", "<a>x</"+s+">", "<a><b/></"+s+">", "<c><a></"+s+"></c>", "<a x='1'></"+s+"></a>")
	}
	p := "<p:a xmlns:p='u' xmlns:q='u' xmlns='u'>"
	for _, s := range []string{"a", "q:a", "p:b", "p", "p:", ":a", "p:a:a", "p:ab", "p:A", "P:a", "p: a", "p :a", "xmlns:a", "u:a"} {
		unformed(t, p+"</"+s+">", p+"x</"+s+">")
	}
	is(t, p+"</p:a>", api.Node{Kind: api.Element, Prefix: "p", Local: "a", URI: "u", Decls: decls("p", "u", "q", "u", "", "u")})
	// In another order, too many, and too few.
	unformed(t, "<a><b></a></b>", "<a><b></a>", "<a></b></a>", "<a><b/></b></a>", "<a><b></b></b></a>", "<a></a></a>", "<a/></a>", "<a><b><c></b></c></a>", "<a><a></a>", "</a><a>", "</a>", "<a><b></b>")
	// Not ended.
	for _, s := range []string{"<", "<a", "<a ", "<a/", "<a /", "<a x", "<a x=", "<a x='", "<a x='1", "<a x='1'", "<a x='1' ", "<a x='1'/", "<a>", "<a>x", "<a><", "<a></", "<a></a", "<a></a ", "<a><b/>", "<a><b/", "<a></a\n", "<a x='1'>", "<a><!--c-->", "<a><![CDATA[x]]>", "<a>&lt;"} {
		unformed(t, s, "<!--c-->"+s, s+"\n")
	}
	unformed(t, "<a/", "<a/</a>", "<a></a/>", "<a></a</a>", "<a<b/></a>", "<a//>", "<a/ />", "<a/a>", "<a><//a>", "<a></a>/>", "<a>>", "<a/>>", "<a></a>>", "<<a/>", "<a / >", "<a?>", "<a x='1'?>", "<a]]>", "<a>]]></a>", "(a/)", "<a/&gt;", "&lt;a/>", "<a></a x='1'>", "<a></a x>", "<a></a xmlns='u'>")
	// What isn't a child of what, by how elements are ended.
	is(t, "<a><b/><c><d/></c><e></e></a>", element(0, "a"), element(1, "b"), element(1, "c"), element(3, "d"), element(1, "e"))
	is(t, "<a><a><a/></a><a/></a>", element(0, "a"), element(1, "a"), element(2, "a"), element(1, "a"))
}

func TestMarks(t *testing.T) {
	one := element(0, "a", attr("x", "1"))
	for _, s := range []string{"x='1'", `x="1"`, "x ='1'", "x= '1'", "x = '1'", "x='1' ", "x='&#49;'"} {
		is(t, "<a "+s+"/>", one)
		is(t, "<a "+s+"></a>", one)
	}
	for _, b := range everyBlank {
		for _, s := range []string{b + "x='1'", " x" + b + "='1'", " x=" + b + "'1'", b + "x" + b + "=" + b + "'1'", " x='1'" + b} {
			is(t, "<a"+s+"/>", one)
			is(t, "<a"+s+"></a>", one)
		}
		is(t, "<a"+b+"x='1'"+b+`y="2"`+b+"z='3'/>", element(0, "a", attr("x", "1"), attr("y", "2"), attr("z", "3")))
	}
	for _, s := range []string{
		// Without blanks ahead.
		"x='1'y='2'", `x='1'y="2"`, `x="1"y="2"`, "x='1'xmlns='u'", "xmlns='u'x='1'", "x='1''2'", "x='1'\u00a0y='2'", "x='1'/y='2'", "x='1',y='2'", "x='1';y='2'", "x='1'&#32;y='2'",
		// Without EQ, and with other than that.
		"x", "x '1'", "x'1'", `x"1"`, "x=", "x= ", "=", "='1'", "'1'", "x=='1'", "x = = '1'", "x:='1'", "x=x='1'", "x y='1'", "x='1' y", "x:'1'", "x\u00a0='1'", "x&#61;'1'", "x\uff1d'1'",
		// Without quotes, or with others.
		"x=1", "x=1'", "x='1", `x='1"`, `x="1'`, "x=`1`", "x=\u20181\u2019", "x='1''", "x=''1'", `x="1""`, `x='1'"`, "x=&apos;1&apos;", "x=(1)", "x=&#39;1&#39;", "x='it's'", `x="a"b"`,
		// With < in the value, and others that may not stand there.
		"x='<'", "x='a<b'", "x='<b/>'", "x='<![CDATA[1]]>'", "x='<!--1-->'", "x='&'", "x='&x;'", "x='&lt'", "x='a & b'", "x='&#0;'", "x='&#xD800;'", "x='&#xFFFE;'", "x='&#x110000;'", "x='&LT;'", "x='&#;'", "x='&nbsp;'", `x="<"`, `x="&"`,
		// Two of one name.
		"x='1' x='2'", "x='1' x='1'", `x='1' x="1"`, "x='1' y='2' x='3'", "x='' x=''", "xmlns='u' xmlns='v'", "xmlns='u' xmlns='u'", "xmlns='' xmlns=''", "xmlns:p='u' xmlns:p='v'", "xmlns:p='u' xmlns:p='u'",
		"xmlns:p='u' p:x='1' p:x='2'", "p:x='1' p:x='1' xmlns:p='u'", "xmlns:p='u' xmlns:q='u' p:x='1' q:x='2'", "p:x='1' q:x='1' xmlns:p='u' xmlns:q='u'", "p:x='1' xmlns:p='u' q:x='1' xmlns:q='&#117;'", "xml:x='1' xml:x='2'", "xml:x='1' xmlns:xml='" + xmlSpace + "' xml:x='1'",
	} {
		for _, b := range []string{"", " "} {
			unformed(t, "<a "+s+b+"/>", "<a "+s+b+"></a>", "<b><a "+s+b+"/></b>", "<a y1='1' "+s+b+"/>", "<a "+s+" y1='1'"+b+"/>")
		}
	}
	unformed(t, "<b xmlns:p='u'><a xmlns:q='u' p:x='1' q:x='1'/></b>", "<b xmlns:p='u' xmlns:q='u'><a p:x='1' q:x='1'/></b>", "<b xmlns:p='v' xmlns:q='u'><a p:x='1' q:x='1' xmlns:p='u'/></b>")
	for _, s := range noText {
		unformed(t, "<a x='"+s+"'/>", "<a x"+s+"='1'/>", "<a xmlns='"+s+"'/>", "<a xmlns:p='u"+s+"'/>", "<a"+s+"/>")
	}
}

func TestMarkValues(t *testing.T) {
	for _, c := range [][2]string{
		{"", ""}, {"1", "1"}, {" ", " "}, {"  a  b  ", "  a  b  "}, {"\t", " "}, {"\n", " "}, {"a\tb\nc", "a b c"}, {"&#9;&#10;&#13;", "\t\n\r"}, {"&#x20;", " "},
		{"&lt;", "<"}, {"&gt;", ">"}, {"&amp;", "&"}, {"&apos;", "'"}, {"&quot;", `"`}, {"&#39;", "'"}, {"&#34;", `"`}, {"&#60;", "<"}, {"&#38;lt;", "&lt;"}, {"&amp;amp;", "&amp;"}, {"a&#x41;b", "aAb"}, {"&#0065;", "A"},
		{">", ">"}, {"]]>", "]]>"}, {"-->", "-->"}, {"--", "--"}, {"?>", "?>"}, {"/>", "/>"}, {"/", "/"}, {"=", "="}, {"x=1", "x=1"}, {">x", ">x"}, {"a b", "a b"}, {"#", "#"}, {";", ";"}, {"!DOCTYPE", "!DOCTYPE"},
		{"\u6587", "\u6587"}, {"\U0010FFFF", "\U0010FFFF"}, {"\u00a0", "\u00a0"}, {"\ufffd", "\ufffd"}, {"\u0085", "\u0085"}, {"\ufeff", "\ufeff"},
	} {
		x := element(0, "a", attr("x", c[1]), attr("y", "2"))
		is(t, "<a x='"+c[0]+"' y='2'/>", x)
		is(t, `<a x="`+c[0]+`" y="2"></a>`, x)
		is(t, "<a x = '"+c[0]+`' y = "2" />`, x)
		if c[1] == "" {
			continue
		}
		top := element(0, "a")
		top.Decls, top.URI = decls("p", c[1], "", c[1]), c[1]
		is(t, "<a xmlns:p='"+c[0]+`' xmlns="`+c[0]+`"/>`, top)
	}
	is(t, `<a x="'" y='"'/>`, element(0, "a", attr("x", "'"), attr("y", `"`)))
	is(t, `<a x="it's" y='a "b" c'/>`, element(0, "a", attr("x", "it's"), attr("y", `a "b" c`)))
	is(t, `<a x="' y=' " z='"'/>`, element(0, "a", attr("x", "' y=' "), attr("z", `"`)))
}

// TestNamesApart has marks whose names are alike, but not the same.
func TestNamesApart(t *testing.T) {
	x := element(0, "a", attr("x", "1"), attr("X", "2"), attr("xx", "3"), attr("\u0445", "4"))
	is(t, "<a x='1' X='2' xx='3' \u0445='4'/>", x)
	x = element(0, "a", attr("x", "1"), api.Attr{Prefix: "p", Local: "x", URI: "u", Value: "1"}, api.Attr{Prefix: "q", Local: "x", URI: "v", Value: "1"}, api.Attr{Prefix: "xml", Local: "x", URI: xmlSpace, Value: "1"})
	x.URI, x.Decls = "u", decls("", "u", "p", "u", "q", "v")
	is(t, "<a x='1' p:x='1' q:x='1' xml:x='1' xmlns='u' xmlns:p='u' xmlns:q='v'/>", x)
	// A declaration and an attribute of one name.
	x = element(0, "a", attr("p", "1"), api.Attr{Prefix: "p", Local: "p", URI: "u", Value: "2"}, api.Attr{Prefix: "p", Local: "xmlns", URI: "u", Value: "3"})
	x.Decls = decls("p", "u")
	is(t, "<a p='1' p:p='2' p:xmlns='3' xmlns:p='u'/>", x)
}

// TestOrder has nodes, declarations and attributes in an order that no sorting would give.
func TestOrder(t *testing.T) {
	x := element(0, "m", attr("z", "1"), attr("a", "2"), attr("m", "3"), api.Attr{Prefix: "q", Local: "a", URI: "b", Value: "4"}, attr("B", "5"), api.Attr{Prefix: "p", Local: "a", URI: "c", Value: "6"})
	x.URI, x.Decls = "a", decls("q", "b", "", "a", "z", "d", "p", "c")
	is(t, "<m z='1' xmlns:q='b' a='2' m='3' q:a='4' xmlns='a' xmlns:z='d' B='5' p:a='6' xmlns:p='c'/>", x)
	is(t, "<!--2--><?c?><!--1--><z><y/>2<b><?z?>1<!--3--></b><a/><!--0-->0</z><?b?><!--0--><?a?>",
		comment(0, "2"), instruction(0, "c", ""), comment(0, "1"), element(0, "z"), element(4, "y"), text(4, "2"), element(4, "b"), instruction(7, "z", ""), text(7, "1"), comment(7, "3"),
		element(4, "a"), comment(4, "0"), text(4, "0"), instruction(0, "b", ""), comment(0, "0"), instruction(0, "a", ""))
}
