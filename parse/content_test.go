package parse

import (
	"strings"
	"testing"
)

// noText are bytes that aren't text.
var noText = []string{"\x00", "\x01", "\x08", "\x0b", "\x0c", "\x1f", "\ufffe", "\uffff", "\xff", "\x80", "\xc3", "\xe6\x96", "\xed\xa0\x80", "\xc0\x80", "\xf4\x90\x80\x80"}

func TestComments(t *testing.T) {
	for _, s := range []string{
		"", " ", "c", "-c", "c-d", " - - ", ">", "->", ">-a", "-\n", "\t\n ", "<", "<a>", "</a>", "<b", "<?i?>", "<?xml?>", "<!", "<!-a", "<!a",
		"<![CDATA[x]]>", "]]>", "&", "&lt;", "&x;", "&#0;", "'", `"`, "?>", "\u6587", "\U0010FFFF", "\ufffd", "\ufeff", "\x7f", "\u0085",
	} {
		is(t, "<!--"+s+"--><a/>", comment(0, s), element(0, "a"))
		is(t, "<a/><!--"+s+"-->", element(0, "a"), comment(0, s))
		is(t, "<a><!--"+s+"--></a>", element(0, "a"), comment(1, s))
		is(t, "<a>x<!--"+s+"-->y</a>", element(0, "a"), text(1, "x"), comment(1, s), text(1, "y"))
		is(t, "<a><!--"+s+"--><!--"+s+"--></a>", element(0, "a"), comment(1, s), comment(1, s))
	}
	for _, s := range []string{
		// With -- in it, or - at its end.
		"<!----->", "<!------>", "<!--c--d-->", "<!----c-->", "<!--c---->", "<!--c--->", "<!--<!--c-->", "<!--c-- -->", "<!-- -- -->", "<!--c--d--e-->",
		// Ended wrongly, or not at all.
		"<!--c", "<!--c-", "<!--c--", "<!--c->", "<!--c>", "<!--c-- >", "<!--c--\n>", "<!--c- ->", "<!--", "<!--c--!>", "<!--c]]>", "<!--c/>", "<!--c?>", "<!--c&#45;->", "<!--c--&gt;", "<!--c\u2010\u2010>", "<!--->", "<!-->",
		// Begun wrongly.
		"<!-c-->", "<!- -c-->", "< !--c-->", "<! --c-->", "<--c-->", "<!c-->", "<!\u2010\u2010c-->", "<?--c-->", "</--c-->", "<!-->c",
	} {
		unformed(t, around(s)...)
	}
	// What stands behind a comment's end is another thing, also if it looks like an end.
	for _, s := range []string{"-->", ">", "c-->", "->", "--", "-"} {
		unformed(t, "<!--c-->"+s+"<a/>", "<a/><!--c-->"+s)
		is(t, "<a><!--c-->"+s+"</a>", element(0, "a"), comment(1, "c"), text(1, s))
	}
	for _, s := range noText {
		unformed(t, around("<!--"+s+"-->")...)
	}
	// Not in tags.
	unformed(t, "<a<!--c-->/>", "<a <!--c-->/>", "<a b=<!--c-->'1'/>", "<a b='<!--c-->'/>", "<a></a<!--c-->>", "<a></<!--c-->a>", "<<!--c-->a/>")
}

func TestInstructions(t *testing.T) {
	for _, target := range []string{"i", "go", "_", "i-1.2", "xm", "xmll", "xml-", "x", "XMLS", "\u6587", "i\u00b7", "xmlns", "x\u043cl"} {
		for _, c := range [][2]string{
			{"", ""}, {" ", ""}, {" \t\n ", ""}, {" j", "j"}, {"\tj", "j"}, {"\nj", "j"}, {"\rj", "j"}, {"\r\nj", "j"}, {" \n\t  j", "j"}, {" j ", "j "}, {" j \n", "j \n"}, {"  j  k ", "j  k "},
			{" ?", "?"}, {" ??", "??"}, {" >", ">"}, {" ?a>", "?a>"}, {" ? >", "? >"}, {" /", "/"}, {" <a>", "<a>"}, {" </a>", "</a>"}, {" <?j", "<?j"}, {" <!--", "<!--"}, {" -->", "-->"}, {" --", "--"}, {" ]]>", "]]>"},
			{" &", "&"}, {" &lt;&x;", "&lt;&x;"}, {" a='b'", "a='b'"}, {" '", "'"}, {` "`, `"`}, {" \u00a0j", "\u00a0j"}, {" \u6587", "\u6587"}, {" xml", "xml"}, {" xml version='1.0'", "xml version='1.0'"},
		} {
			s, x := "<?"+target+c[0]+"?>", instruction(0, target, c[1])
			within := x
			within.Parent = 1
			is(t, s+"<a/>", x, element(0, "a"))
			is(t, "<a/>"+s, element(0, "a"), x)
			is(t, "<a>"+s+"</a>", element(0, "a"), within)
			is(t, "<a>x"+s+"y</a>", element(0, "a"), text(1, "x"), within, text(1, "y"))
			is(t, "<a>"+s+s+"</a>", element(0, "a"), within, within)
		}
		// A target is followed by neither a blank nor ?>.
		for _, s := range []string{"?", "??", "/", "=", "='1'", "<", ">", "&", "&#32;", "'", "\u00a0", "\u0085", "\f", ":", ":j", ":j k", "!", "(", ",", "\u00d7"} {
			unformed(t, around("<?"+target+s+"?>")...)
			unformed(t, around("<?"+target+s+" j?>")...)
		}
	}
	for _, s := range []string{
		// Without a target, and with one that is no name, or is xml.
		"<??>", "<? ?>", "<? i?>", "<?\ti?>", "<?\ni?>", "<?1?>", "<?-i?>", "<?.i?>", "<?\u00b7?>", "<?:i?>", "<?i:?>", "<?i:j?>", "<?'i'?>", "<?<i?>", "<?&#105;?>", "<?/i?>", "<?!i?>", "<???>", "<?>?>",
		"<?xml?>", "<?xml ?>", "<?xml j?>", "<?XML?>", "<?Xml j?>", "<?xMl?>", "<?xmL j?>", "<?XMl?>", "<?XmL?>", "<?xML j?>",
		// Ended wrongly, or not at all.
		"<?i", "<?i ", "<?i j", "<?i>", "<?i/>", "<?i ?", "<?i j?", "<?i j>", "<?i j? >", "<?i j?\n>", "<?i j?&gt;", "<?i j-->", "<?", "<?>", "<?i j]]>",
		// Begun wrongly.
		"< ?i?>", "<\n?i?>", "<!i?>", "<i?>", "<?\u00a0i?>",
	} {
		unformed(t, around(s)...)
	}
	// What stands behind an instruction's end is another thing, also if it looks like an end.
	for _, s := range []string{"?>", ">", "j?>", "?"} {
		unformed(t, "<?i?>"+s+"<a/>", "<a/><?i j?>"+s)
		is(t, "<a><?i j?>"+s+"</a>", element(0, "a"), instruction(1, "i", "j"), text(1, s))
	}
	for _, s := range noText {
		unformed(t, around("<?i "+s+"?>")...)
		unformed(t, around("<?i"+s+"?>")...)
	}
	// Not in tags.
	unformed(t, "<a<?i?>/>", "<a <?i?>/>", "<a b=<?i?>'1'/>", "<a b='<?i?>'/>", "<a></a<?i?>>", "<a></<?i?>a>")
}

func TestTexts(t *testing.T) {
	for _, c := range [][2]string{
		{"x", "x"}, {" ", " "}, {"\t", "\t"}, {"\n", "\n"}, {" x ", " x "}, {" \n\t x \n y\t", " \n\t x \n y\t"},
		{"&lt;", "<"}, {"&gt;", ">"}, {"&amp;", "&"}, {"&apos;", "'"}, {"&quot;", `"`}, {"&#65;", "A"}, {"&#x41;", "A"}, {"&#x0000041;", "A"}, {"&#x6587;", "\u6587"}, {"&#x10ffff;", "\U0010FFFF"}, {"&#x10FFFF;", "\U0010FFFF"}, {"&#9;&#10;&#13;&#32;", "\t\n\r "},
		{"a&lt;b&gt;c&#x41;d", "a<b>cAd"}, {"&lt;b/&gt;", "<b/>"}, {"&lt;!--c--&gt;", "<!--c-->"}, {"&amp;lt;", "&lt;"}, {"&#38;lt;", "&lt;"}, {"&lt;![CDATA[x]]&gt;", "<![CDATA[x]]>"},
		{">", ">"}, {"]", "]"}, {"]]", "]]"}, {"]>", "]>"}, {"]]&gt;", "]]>"}, {"]]&#62;", "]]>"}, {"]&#93;>", "]]>"}, {"&#93;]>", "]]>"}, {"]] >", "]] >"}, {"] ]>", "] ]>"}, {"]]\n>", "]]\n>"},
		{"-->", "-->"}, {"--", "--"}, {"?>", "?>"}, {"/>", "/>"}, {"'", "'"}, {`"`, `"`}, {"=", "="}, {";", ";"}, {"#", "#"}, {"lt;", "lt;"}, {"a b='c'", "a b='c'"}, {"!DOCTYPE", "!DOCTYPE"},
		{"\u6587\u00e9\U0001F600", "\u6587\u00e9\U0001F600"}, {"\u00a0\u0085\u2028\ufeff\ufffd\x7f", "\u00a0\u0085\u2028\ufeff\ufffd\x7f"},
	} {
		is(t, "<a>"+c[0]+"</a>", element(0, "a"), text(1, c[1]))
		is(t, "<a>"+c[0]+"<b>"+c[0]+"</b>"+c[0]+"</a>", element(0, "a"), text(1, c[1]), element(1, "b"), text(3, c[1]), text(1, c[1]))
	}
	for _, s := range []string{
		"]]>", "x]]>", "]]>x", "]]]>", "]]>]]>", "]]>&lt;", " ]]> ",
		"&", "& ", "&;", "&x;", "&LT;", "&lt", "&lt ;", "& lt;", "&lt&gt;", "&nbsp;", "&#;", "&#x;", "&#a;", "&#xg;", "&#X41;", "&# 65;", "&#65 ;", "&#65", "&#-1;", "&#+65;", "&#x-1;", "&a&lt;", "&&lt;", "&lt;&",
		"&#0;", "&#1;", "&#8;", "&#11;", "&#12;", "&#31;", "&#xD800;", "&#xDFFF;", "&#xFFFE;", "&#65535;", "&#x110000;", "&#1114112;", "&#4294967361;", "&#x100000041;", "&#18446744073709551681;",
		"<", "<<", "< ", "<>", "</>", "< b/>", "<1/>", "<&lt;/>",
	} {
		unformed(t, "<a>"+s+"</a>", "<a>x"+s+"</a>", "<a>"+s+"<b/></a>", "<a><b/>"+s+"</a>", "<a><b>"+s+"</b></a>", "<a><![CDATA[x]]>"+s+"</a>")
	}
	for _, s := range noText {
		unformed(t, "<a>"+s+"</a>", "<a>x"+s+"y</a>", "<a>\u6587"+s+"</a>")
	}
}

func TestData(t *testing.T) {
	for _, s := range []string{
		"x", " ", " x ", "\t\n", "<", ">", "&", "<b/>", "</a>", "<a>", "&lt;", "&x;", "&#0;", "&", "]", "]]", "]>", "] ]>", "]]x>", "]] >", "]]]", "<![CDATA[", "<![CDATA[x", "![CDATA[", "[[", "<!--c-->", "<!--", "-->", "--", "<?i?>", "?>", "<!DOCTYPE a>", "'", `"`, "]]&gt;", "]]\n>",
		"\u6587", "\U0010FFFF", "\ufffd", "\ufeff", "\x7f", "\u0085",
	} {
		is(t, "<a><![CDATA["+s+"]]></a>", element(0, "a"), text(1, s))
		is(t, "<a><b/><![CDATA["+s+"]]><b/></a>", element(0, "a"), element(1, "b"), text(1, s), element(1, "b"))
		is(t, "<a>x<![CDATA["+s+"]]>&amp;</a>", element(0, "a"), text(1, "x"+s+"&"))
		// Nothing of it may stand beside the element.
		unformed(t, "<![CDATA["+s+"]]><a/>", "<a/><![CDATA["+s+"]]>")
	}
	// Of nothing.
	is(t, "<a><![CDATA[]]></a>", element(0, "a"))
	is(t, "<a><![CDATA[]]><![CDATA[]]></a>", element(0, "a"))
	is(t, "<a>x<![CDATA[]]></a>", element(0, "a"), text(1, "x"))
	is(t, "<a><![CDATA[]]><b/><![CDATA[]]></a>", element(0, "a"), element(1, "b"))
	unformed(t, "<![CDATA[]]>", "<![CDATA[]]><a/>", "<a/><![CDATA[]]>")
	for _, s := range []string{
		// Ended wrongly, or not at all.
		"<![CDATA[", "<![CDATA[x", "<![CDATA[x]", "<![CDATA[x]]", "<![CDATA[x]>", "<![CDATA[x>", "<![CDATA[x] ]>", "<![CDATA[x]] >", "<![CDATA[x]]&gt;", "<![CDATA[x&#93;]>", "<![CDATA[x-->", "<![CDATA[x?>", "<![CDATA[x]]/>",
		// Begun wrongly.
		"<![cdata[x]]>", "<![CData[x]]>", "<![CDATA x]]>", "<![CDATA(x]]>", "<![CDATA [x]]>", "<![ CDATA[x]]>", "<! [CDATA[x]]>", "< ![CDATA[x]]>", "<[CDATA[x]]>", "<!CDATA[x]]>", "<!CDATA[[x]]>", "<![CDAT[x]]>", "<![CDATAS[x]]>", "<![INCLUDE[x]]>", "<![[x]]>", "<![x]]>", "![CDATA[x]]>",
		// With ]]> in it, or behind it.
		"<![CDATA[x]]>y]]>", "<![CDATA[x]]>]]>", "<![CDATA[<![CDATA[x]]>]]>", "<![CDATA[x]]>&", "<![CDATA[&lt;]]>&x;",
	} {
		unformed(t, around(s)...)
	}
	for _, s := range noText {
		unformed(t, "<a><![CDATA["+s+"]]></a>", "<a><![CDATA[x"+s+"y]]></a>")
	}
	// Not in tags.
	unformed(t, "<a<![CDATA[]]>/>", "<a <![CDATA[]]>/>", "<a b=<![CDATA[]]>'1'/>", "<a b='<![CDATA[x]]>'/>", "<a></a<![CDATA[]]>>")
}

// TestSideBySide has texts that are one Text, and texts that aren't.
func TestSideBySide(t *testing.T) {
	for s, want := range map[string]string{
		"x<![CDATA[y]]>":                            "xy",
		"<![CDATA[x]]>y":                            "xy",
		"<![CDATA[x]]><![CDATA[y]]>":                "xy",
		"x<![CDATA[y]]>z":                           "xyz",
		"x<![CDATA[]]>y":                            "xy",
		"<![CDATA[]]>x<![CDATA[]]>":                 "x",
		"<![CDATA[]]><![CDATA[x]]>":                 "x",
		"a<![CDATA[b]]>c<![CDATA[d]]><![CDATA[e]]>": "abcde",
		// A ]]> that no part has by itself.
		"]]<![CDATA[>]]>":             "]]>",
		"<![CDATA[]]]]><![CDATA[>]]>": "]]>",
		"<![CDATA[]]]]>>":             "]]>",
		"]<![CDATA[]]]>&gt;":          "]]>",
		"]]<![CDATA[]]>>":             "]]>",
		"&#93;<![CDATA[]>]]>":         "]]>",
		// References, and what isn't one in CDATA, or by two parts.
		"&lt;<![CDATA[&lt;]]>&lt;": "<&lt;<",
		"<![CDATA[&]]>lt;":         "&lt;",
		"&amp;<![CDATA[lt;]]>":     "&lt;",
		" <![CDATA[ ]]> ":          "   ",
	} {
		is(t, "<a>"+s+"</a>", element(0, "a"), text(1, want))
		is(t, "<a><b/>"+s+"<b/></a>", element(0, "a"), element(1, "b"), text(1, want), element(1, "b"))
		// Something between.
		is(t, "<a>"+s+"<!--c-->"+s+"</a>", element(0, "a"), text(1, want), comment(1, "c"), text(1, want))
		is(t, "<a>"+s+"<!---->"+s+"</a>", element(0, "a"), text(1, want), comment(1, ""), text(1, want))
		is(t, "<a>"+s+"<?i?>"+s+"</a>", element(0, "a"), text(1, want), instruction(1, "i", ""), text(1, want))
		is(t, "<a>"+s+"<b></b>"+s+"</a>", element(0, "a"), text(1, want), element(1, "b"), text(1, want))
		// Side by side, but for a tag.
		is(t, "<a>"+s+"<b>"+s+"</b></a>", element(0, "a"), text(1, want), element(1, "b"), text(3, want))
		is(t, "<a><b>"+s+"</b>"+s+"</a>", element(0, "a"), element(1, "b"), text(2, want), text(1, want))
	}
	is(t, "<a>x<!--c--><![CDATA[]]><!--d-->y</a>", element(0, "a"), text(1, "x"), comment(1, "c"), comment(1, "d"), text(1, "y"))
	// Bytes that are characters' bytes only in the one Text, so not as they stand.
	for _, c := range []string{"\u00e9", "\u6587", "\U0001F600"} {
		for i := 1; i < len(c); i++ {
			for _, s := range []string{c[:i] + "<![CDATA[" + c[i:] + "]]>", "<![CDATA[" + c[:i] + "]]>" + c[i:], "<![CDATA[" + c[:i] + "]]><![CDATA[" + c[i:] + "]]>", c[:i] + "<![CDATA[]]>" + c[i:]} {
				unformed(t, "<a>"+s+"</a>", "<a>x"+s+"<b/></a>")
			}
		}
	}
	unformed(t, "<a>&<![CDATA[lt;]]></a>", "<a>&lt<![CDATA[;]]></a>", "<a>&#<![CDATA[]]>65;</a>", "<a><<![CDATA[b]]>/></a>")
	// As many as there can be.
	n := 5000
	is(t, "<a>"+strings.Repeat("<![CDATA[]]>", n)+"</a>", element(0, "a"))
	is(t, "<a>"+strings.Repeat("<![CDATA[]]>x", n)+"</a>", element(0, "a"), text(1, strings.Repeat("x", n)))
}

// TestLines has ends of lines everywhere.
func TestLines(t *testing.T) {
	for _, c := range [][2]string{{"\r", "\n"}, {"\n", "\n"}, {"\r\n", "\n"}, {"\r\r", "\n\n"}, {"\r\r\n", "\n\n"}, {"\n\r", "\n\n"}, {"\r\n\r\n", "\n\n"}, {"\r \n", "\n \n"}, {"\r\t\r", "\n\t\n"}} {
		b, ended := c[0], c[1]
		blank := strings.NewReplacer("\n", " ", "\t", " ").Replace(ended)
		is(t, "<a>"+b+"</a>", element(0, "a"), text(1, ended))
		is(t, "<a>x"+b+"y</a>", element(0, "a"), text(1, "x"+ended+"y"))
		is(t, "<a><![CDATA["+b+"]]></a>", element(0, "a"), text(1, ended))
		is(t, "<a>x<![CDATA[y"+b+"z]]>"+b+"</a>", element(0, "a"), text(1, "xy"+ended+"z"+ended))
		is(t, "<!--x"+b+"y--><a/>", comment(0, "x"+ended+"y"), element(0, "a"))
		is(t, "<a><!--"+b+"--></a>", element(0, "a"), comment(1, ended))
		is(t, "<?i x"+b+"y?><a/>", instruction(0, "i", "x"+ended+"y"), element(0, "a"))
		is(t, "<?i"+b+"x"+b+"?><a/>", instruction(0, "i", "x"+ended), element(0, "a"))
		is(t, "<a b='x"+b+"y'/>", element(0, "a", attr("b", "x"+blank+"y")))
		x := element(0, "a")
		x.URI, x.Decls = "u"+blank+"v", decls("", "u"+blank+"v")
		is(t, "<a xmlns='u"+b+"v'/>", x)
		is(t, b+"<a"+b+"b"+b+"="+b+"'c'"+b+">"+"</a"+b+">"+b, element(0, "a", attr("b", "c")))
		is(t, "<a"+b+"/>", element(0, "a"))
		is(t, "<?xml"+b+"version"+b+"="+b+"'1.0'"+b+"?>"+b+"<a/>", element(0, "a"))
	}
	// By references they are left.
	is(t, "<a>&#13;&#10;&#xD;\r\n&#xd;</a>", element(0, "a"), text(1, "\r\n\r\n\r"))
	is(t, "<a b='&#13;&#10;&#9;&#32;\r\n\t '/>", element(0, "a", attr("b", "\r\n\t    ")))
	// Over parts that are one Text.
	is(t, "<a>\r<![CDATA[\n]]></a>", element(0, "a"), text(1, "\n\n"))
	is(t, "<a>&#13;\n</a>", element(0, "a"), text(1, "\r\n"))
	// Those that lead out of a word.
	unformed(t, "<\ra/>", "<a/\r>", "<a>\r", "<a></\ra>", "<!\r--c--><a/>", "<?\ri?><a/>", "<?i?\r><a/>", "<!--c-\r-><a/>", "<a><![CDATA[x]\r]></a\r>", "<a x\ry='1'/>", "<a>&l\rt;</a>", "<a>&lt\r;</a>", "<a x='&#\r65;'/>")
	// What other rules take for ends of lines.
	is(t, "<a b='\u0085\u2028'>\u0085\u2028\r\u0085</a>", element(0, "a", attr("b", "\u0085\u2028")), text(1, "\u0085\u2028\n\u0085"))
}
