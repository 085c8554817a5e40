package parse

import (
	"strings"
	"testing"
)

var everyBlank = []string{" ", "\t", "\n", "\r", "\r\n", "  ", " \t\n\r "}

func TestDeclaration(t *testing.T) {
	fine := []string{
		"", "<?xml version='1.0'?>", `<?xml version="1.0"?>`, "<?xml version='1.0' ?>",
		"<?xml version='1.0' encoding='UTF-8'?>", `<?xml version="1.0" encoding='UTF-8'?>`, `<?xml version='1.0' encoding="UTF-8" ?>`,
		"<?xml version='1.0' standalone='yes'?>", "<?xml version='1.0' standalone='no'?>", `<?xml version='1.0' standalone="yes" ?>`,
		"<?xml version='1.0' encoding='UTF-8' standalone='yes'?>", `<?xml version="1.0" encoding="UTF-8" standalone="no" ?>`,
	}
	for n := range 8 {
		letters := []byte("utf-8")
		for i := range 3 {
			if n>>i&1 == 1 {
				letters[i] -= 'a' - 'A'
			}
		}
		fine = append(fine, "<?xml version='1.0' encoding='"+string(letters)+"'?>")
	}
	for _, b := range everyBlank {
		fine = append(fine,
			"<?xml"+b+"version='1.0'?>", "<?xml version"+b+"='1.0'?>", "<?xml version="+b+"'1.0'?>", "<?xml version='1.0'"+b+"?>",
			"<?xml version='1.0'"+b+"encoding='UTF-8'?>", "<?xml version='1.0' encoding"+b+"='UTF-8'?>", "<?xml version='1.0' encoding="+b+"'UTF-8'?>", "<?xml version='1.0' encoding='UTF-8'"+b+"?>",
			"<?xml version='1.0'"+b+"standalone='no'?>", "<?xml version='1.0' standalone"+b+"='no'?>", "<?xml version='1.0' standalone="+b+"'no'?>", "<?xml version='1.0' standalone='no'"+b+"?>",
			"<?xml"+b+"version"+b+"="+b+"'1.0'"+b+"encoding"+b+"="+b+"'utf-8'"+b+"standalone"+b+"="+b+"'yes'"+b+"?>",
		)
	}
	for _, s := range fine {
		is(t, s+"<a/>", element(0, "a"))
		is(t, s+"\n<!--c--> <a/>\n", comment(0, "c"), element(0, "a"))
	}
	unformed(t, fine...)
}

// TestNoDeclaration has what isn't a declaration, each with one word of the chapter broken.
func TestNoDeclaration(t *testing.T) {
	for _, s := range []string{
		// What it says: less, in another order, twice, or other things.
		"<?xml?>", "<?xml ?>", "<?xml encoding='UTF-8'?>", "<?xml standalone='yes'?>", "<?xml encoding='UTF-8' standalone='yes'?>",
		"<?xml encoding='UTF-8' version='1.0'?>", "<?xml standalone='yes' version='1.0'?>", "<?xml version='1.0' standalone='yes' encoding='UTF-8'?>",
		"<?xml version='1.0' version='1.0'?>", "<?xml version='1.0' encoding='UTF-8' encoding='UTF-8'?>", "<?xml version='1.0' standalone='no' standalone='no'?>",
		"<?xml version='1.0' a='b'?>", "<?xml a='b' version='1.0'?>", "<?xml version='1.0' encoding='UTF-8' a='b'?>", "<?xml version='1.0' a?>", "<?xml version='1.0' 'UTF-8'?>",
		"<?xml Version='1.0'?>", "<?xml VERSION='1.0'?>", "<?xml version='1.0' Encoding='UTF-8'?>", "<?xml version='1.0' Standalone='no'?>", "<?xml versions='1.0'?>", "<?xml version='1.0' encodings='UTF-8'?>",
		// Values.
		"<?xml version=''?>", "<?xml version='1'?>", "<?xml version='1.1'?>", "<?xml version='2.0'?>", "<?xml version='1.00'?>", "<?xml version='01.0'?>", "<?xml version='1,0'?>", "<?xml version=' 1.0'?>", "<?xml version='1.0 '?>", "<?xml version='&#49;.0'?>",
		"<?xml version='1.0' encoding=''?>", "<?xml version='1.0' encoding='UTF8'?>", "<?xml version='1.0' encoding='UTF-16'?>", "<?xml version='1.0' encoding='UTF_8'?>", "<?xml version='1.0' encoding='ISO-8859-1'?>", "<?xml version='1.0' encoding='US-ASCII'?>",
		"<?xml version='1.0' encoding=' UTF-8'?>", "<?xml version='1.0' encoding='UTF-8 '?>", "<?xml version='1.0' encoding='UTF-80'?>", "<?xml version='1.0' encoding='\uff35TF-8'?>", "<?xml version='1.0' encoding='UTF\u20108'?>", "<?xml version='1.0' encoding='&#85;TF-8'?>",
		"<?xml version='1.0' standalone=''?>", "<?xml version='1.0' standalone='Yes'?>", "<?xml version='1.0' standalone='YES'?>", "<?xml version='1.0' standalone='No'?>", "<?xml version='1.0' standalone='NO'?>", "<?xml version='1.0' standalone='true'?>", "<?xml version='1.0' standalone='yes '?>", "<?xml version='1.0' standalone='ye\u017f'?>", "<?xml version='1.0' standalone='yesno'?>",
		// Quotes and EQ.
		"<?xml version=1.0?>", `<?xml version='1.0"?>`, `<?xml version="1.0'?>`, "<?xml version='1.0?>", "<?xml version=1.0'?>", "<?xml version=`1.0`?>", "<?xml version='1.0''?>", "<?xml version\u20191.0\u2019?>",
		"<?xml version='1.0' encoding=UTF-8?>", `<?xml version='1.0' encoding="UTF-8'?>`, "<?xml version='1.0' standalone=no?>", `<?xml version='1.0' standalone='no"?>`,
		"<?xml version '1.0'?>", "<?xml version'1.0'?>", "<?xml version:'1.0'?>", "<?xml version=='1.0'?>", "<?xml version?>", "<?xml version=?>", "<?xml version='1.0' encoding 'UTF-8'?>", "<?xml version='1.0' standalone'no'?>",
		// Blanks where they must be, and where they may not.
		"<?xmlversion='1.0'?>", "<?xml version='1.0'encoding='UTF-8'?>", "<?xml version='1.0'standalone='no'?>", "<?xml version='1.0' encoding='UTF-8'standalone='no'?>",
		"< ?xml version='1.0'?>", "<? xml version='1.0'?>", "<?xml ver sion='1.0'?>", "<?xml version='1.0'? >", "<?xml version='1.0' ? >",
		"<?xml\u00a0version='1.0'?>", "<?xml\u0085version='1.0'?>", "<?xml\fversion='1.0'?>", "<?xml version='1.0'\u00a0?>",
		// Its beginning and its end.
		"<?XML version='1.0'?>", "<?Xml version='1.0'?>", "<?xmL version='1.0'?>", "<xml version='1.0'?>", "<?xm version='1.0'>", "<!xml version='1.0'?>",
		"<?xml version='1.0'>", "<?xml version='1.0'?", "<?xml version='1.0'", "<?xml version='1.0'/>", "<?xml version='1.0'/?>", "<?xml version='1.0'??>", "<?xml version='1.0'?>?>", "<?xml version='1.0'?>>", "<?", "<?xml", "<?xml ",
		// Twice.
		"<?xml version='1.0'?><?xml version='1.0'?>", "<?xml version='1.0'?>\n<?xml version='1.0'?>", "<?xml version='1.0'?><?xml?>",
	} {
		unformed(t, s+"<a/>", s+"\n<a></a>\n")
	}
	// Not at the beginning.
	s := "<?xml version='1.0'?>"
	for _, ahead := range []string{" ", "\t", "\n", "\r", "\r\n", "<!--c-->", "<?i?>", "\ufeff", "x", "\x00"} {
		unformed(t, ahead+s+"<a/>")
	}
	unformed(t, "<a/>"+s, "<a>"+s+"</a>", "<a>x"+s+"</a>", "<a "+s+"/>", s+"<a>"+s+"</a>", s+"<a/>"+s)
	// Where it is only text.
	is(t, "<a><![CDATA["+s+"]]></a>", element(0, "a"), text(1, s))
	is(t, "<!--"+s+"--><a/>", comment(0, s), element(0, "a"))
	// Instructions whose targets begin likewise.
	is(t, "<?xml-stylesheet href='b'?><a/>", instruction(0, "xml-stylesheet", "href='b'"), element(0, "a"))
	is(t, "<?xmlversion ='1.0'?><a/>", instruction(0, "xmlversion", "='1.0'"), element(0, "a"))
	is(t, "<?xml1?><a/>", instruction(0, "xml1", ""), element(0, "a"))
}

func TestBesideTheElement(t *testing.T) {
	for _, b := range everyBlank {
		for _, s := range []string{b + "<a/>", "<a/>" + b, b + "<a/>" + b, b + b + "<a/>", "<?xml version='1.0'?>" + b + "<a/>"} {
			is(t, s, element(0, "a"))
		}
		is(t, b+"<!--c-->"+b+"<?i?>"+b+"<a/>"+b+"<?j?>"+b+"<!--d-->"+b, comment(0, "c"), instruction(0, "i", ""), element(0, "a"), instruction(0, "j", ""), comment(0, "d"))
	}
	is(t, "<!--c--><!--d--><?i?><?i?><a/><!--e--><!--f--><?j?><?j?>",
		comment(0, "c"), comment(0, "d"), instruction(0, "i", ""), instruction(0, "i", ""), element(0, "a"),
		comment(0, "e"), comment(0, "f"), instruction(0, "j", ""), instruction(0, "j", ""))
	// No element, and two.
	unformed(t, "", " ", "\n", "<!--c-->", "<?i?>", " <!--c--> <?i?> ", "<?xml version='1.0'?>", "<?xml version='1.0'?>\n<!--c-->", "<!--<a/>-->", "<?i <a/>?>")
	unformed(t, "<a/><a/>", "<a/><b/>", "<a></a><a></a>", "<a/>\n<b/>", "<a/><!--c--><b/>", "<a></a><b>", "<a/></a>", "<a/></b>", "</a>", "</a><a>", "</><a/>", "<a></a></a>")
	// Other characters.
	for _, s := range []string{"x", ".", "&lt;", "&#32;", "&#10;", "&#x20;", ">", "]]>", "-->", "?>", "\u00a0", "\u0085", "\u2028", "\u3000", "\ufeff", "\u200b", "\f", "\v", "\x00", "0", "&", ";", "'", `"`, "<", "<>", "</>", "< >", "<![CDATA[]]>", "<![CDATA[ ]]>", "<![CDATA[x]]>", "<!>", "<!a>", "<![a]>"} {
		for _, b := range []string{"", " ", "\n"} {
			unformed(t, b+s+b+"<a/>", "<a/>"+b+s+b, "<!--c-->"+b+s+b+"<a/>", "<?xml version='1.0'?>"+b+s+b+"<a/>", "<a/><?i?>"+b+s+b)
		}
	}
	// Blanks in the element are no less text than others.
	is(t, "<a> <b/>\n</a>", element(0, "a"), text(1, " "), element(1, "b"), text(1, "\n"))
}

func TestNoDocumentTypes(t *testing.T) {
	for _, s := range []string{"<!DOCTYPE a>", "<!DOCTYPE a []>", "<!DOCTYPE a [<!ENTITY b 'c'>]>", "<!DOCTYPE a SYSTEM 'b'>", "<!DOCTYPE a PUBLIC 'b' 'c'>", "<!doctype a>", "<!DOCTYPE>", "<!DOCTYPE", "<!ELEMENT a ANY>", "<!ENTITY a 'b'>", "<!ATTLIST a b CDATA 'c'>", "<!NOTATION a SYSTEM 'b'>"} {
		unformed(t, around(s)...)
		unformed(t, " "+s+"<a/>", "<!--c-->"+s+"\n<a/>", "<?i?>"+s+"<a/>", "<?xml version='1.0'?>\n"+s+"\n<a/>", s, "<a "+s+"/>", "<a b='"+s+"'/>")
		// Where it is only text.
		is(t, "<a><![CDATA["+s+"]]></a>", element(0, "a"), text(1, s))
		is(t, "<!--"+s+"--><a/>", comment(0, s), element(0, "a"))
		is(t, "<?i "+s+"?><a/>", instruction(0, "i", s), element(0, "a"))
		is(t, "<a>"+strings.ReplaceAll(s, "<", "&lt;")+"</a>", element(0, "a"), text(1, s))
	}
}
