package parse

import (
	"bytes"
	"reflect"
	"strconv"
	"strings"
	"testing"

	"apostille/api"
)

// padded is s with blanks behind it, up to n bytes.
func padded(s string, n int) string { return s + strings.Repeat(" ", n-len(s)) }

func TestMostBytes(t *testing.T) {
	is(t, padded("<a/>", api.MaxBytes), element(0, "a"))
	is(t, padded("<a/>", api.MaxBytes-1), element(0, "a"))
	refused(t, padded("<a/>", api.MaxBytes+1), api.ErrLimit)
	refused(t, padded("<a/>", 3*api.MaxBytes), api.ErrLimit)
	refused(t, "<a/>"+strings.Repeat(" ", 1<<24), api.ErrLimit)
	// In one text, comment, instruction, value and name.
	for _, c := range []struct {
		ahead, behind string
		want          func(s string) []api.Node
	}{
		{"<a>", "</a>", func(s string) []api.Node { return []api.Node{element(0, "a"), text(1, s)} }},
		{"<a><![CDATA[", "]]></a>", func(s string) []api.Node { return []api.Node{element(0, "a"), text(1, s)} }},
		{"<!--", "--><a/>", func(s string) []api.Node { return []api.Node{comment(0, s), element(0, "a")} }},
		{"<?i ", "?><a/>", func(s string) []api.Node { return []api.Node{instruction(0, "i", s), element(0, "a")} }},
		{"<a x='", "'/>", func(s string) []api.Node { return []api.Node{element(0, "a", attr("x", s))} }},
		{"<", "/>", func(s string) []api.Node { return []api.Node{element(0, s)} }},
	} {
		s := strings.Repeat("x", api.MaxBytes-len(c.ahead)-len(c.behind))
		is(t, c.ahead+s+c.behind, c.want(s)...)
		refused(t, c.ahead+s+"x"+c.behind, api.ErrLimit)
	}
	// Bytes are counted, not characters, and ahead of the ends of lines.
	s := strings.Repeat("\u6587", (api.MaxBytes-7)/3)
	is(t, padded("<a>"+s+"</a>", api.MaxBytes), element(0, "a"), text(1, s))
	refused(t, padded("<a>"+s+"</a>", api.MaxBytes+1), api.ErrLimit)
	s = strings.Repeat("\r\n", (api.MaxBytes-4)/2)
	is(t, "<a/>"+s, element(0, "a"))
	refused(t, "<a/>"+s+"\r", api.ErrLimit)
	refused(t, "<a/>"+s+"\n", api.ErrLimit)
}

func TestMostNodes(t *testing.T) {
	// Beside the Root and its element.
	most := api.MaxNodes - 2
	for _, c := range []struct {
		part string
		node api.Node
	}{{"<b/>", element(1, "b")}, {"<!---->", comment(1, "")}, {"<?i?>", instruction(1, "i", "")}, {"<b></b>", element(1, "b")}} {
		want := []api.Node{element(0, "a")}
		for range most {
			want = append(want, c.node)
		}
		is(t, "<a>"+strings.Repeat(c.part, most)+"</a>", want...)
		is(t, "<a>"+strings.Repeat(c.part, most-1)+"</a>", want[:most]...)
		refused(t, "<a>"+strings.Repeat(c.part, most+1)+"</a>", api.ErrLimit)
		refused(t, "<a>"+strings.Repeat(c.part, most)+"</a><!---->", api.ErrLimit)
		refused(t, "<!---->"+"<a>"+strings.Repeat(c.part, most)+"</a>", api.ErrLimit)
		refused(t, "<a>x"+strings.Repeat(c.part, most)+"</a>", api.ErrLimit)
	}
	// Texts count, CDATA of nothing and what stands side by side don't.
	is(t, "<a><![CDATA[]]>"+strings.Repeat("<b/>", most)+"<![CDATA[]]></a>", document(t, "<a>"+strings.Repeat("<b/>", most)+"</a>").Nodes()[1:]...)
	half := strings.Repeat("x<b/>", most/2)
	if n := document(t, "<a>"+half+"</a>").Len(); n != api.MaxNodes {
		t.Error(n)
	}
	refused(t, "<a>"+half+"x</a>", api.ErrLimit)
	if n := document(t, "<?xml version='1.0'?>\n"+strings.Repeat("<?i?>\n", api.MaxNodes-2)+"<a/>\n").Len(); n != api.MaxNodes {
		t.Error(n)
	}
}

// nested is n elements, each below the one ahead, and s in the innermost.
func nested(n int, s string) string {
	return strings.Repeat("<a>", n) + s + strings.Repeat("</a>", n)
}

func TestMostDepth(t *testing.T) {
	chain := func(n int) []api.Node {
		var l []api.Node
		for i := range n {
			l = append(l, element(i, "a"))
		}
		return l
	}
	most := api.MaxDepth
	for n := 1; n <= most; n++ {
		is(t, nested(n, ""), chain(n)...)
	}
	refused(t, nested(most+1, ""), api.ErrLimit)
	refused(t, nested(most+2, ""), api.ErrLimit)
	refused(t, nested(9000, ""), api.ErrLimit)
	for _, c := range []struct {
		part string
		node api.Node
	}{{"<b/>", element(most-1, "b")}, {"x", text(most-1, "x")}, {"<!--c-->", comment(most-1, "c")}, {"<?i?>", instruction(most-1, "i", "")}} {
		is(t, nested(most-1, c.part), append(chain(most-1), c.node)...)
		refused(t, nested(most, c.part), api.ErrLimit)
		refused(t, nested(9000, c.part), api.ErrLimit)
	}
	is(t, nested(most, "<![CDATA[]]>"), chain(most)...)
	// As deep a second time.
	if d := document(t, "<a>"+strings.Repeat(nested(most-1, ""), 3)+"</a>"); d.Len() != 3*(most-1)+2 {
		t.Error(d.Len())
	}
	refused(t, "<a>"+nested(most-1, "")+nested(most, "")+"</a>", api.ErrLimit)
}

// marks are so many declarations and attributes.
func marks(decls, attrs int) string {
	s := ""
	for i := range decls {
		s += " xmlns:p" + strconv.Itoa(i) + "='u'"
	}
	for i := range attrs {
		s += " x" + strconv.Itoa(i) + "=''"
	}
	return s
}

func TestMostMarks(t *testing.T) {
	most := api.MaxMarks
	for n := 0; n <= most; n++ {
		x := document(t, "<a"+marks(n, most-n)+"/>").Node(1)
		if len(x.Decls) != n || len(x.Attrs) != most-n {
			t.Error(n, len(x.Decls), len(x.Attrs))
		}
		document(t, "<a"+marks(n, most-n)+"><b"+marks(n, most-n)+"/></a>")
		for _, m := range []string{marks(n+1, most-n), marks(n, most-n+1), marks(n, most-n) + " xmlns=''"} {
			refused(t, "<a"+m+"/>", api.ErrLimit)
			refused(t, "<a><b/><b"+m+"></b></a>", api.ErrLimit)
		}
	}
	refused(t, "<a"+marks(3000, 0)+"/>", api.ErrLimit)
	refused(t, "<a"+marks(0, 5000)+"/>", api.ErrLimit)
}

// TestWhichError has what several errors apply to.
func TestWhichError(t *testing.T) {
	nodes := "<a>" + strings.Repeat("<b/>", api.MaxNodes) + "</a>"
	deep := nested(api.MaxDepth+1, "")
	marked := "<a" + marks(0, api.MaxMarks+1) + "/>"
	// Too many bytes, whatever they are.
	more := api.MaxBytes + 1
	for _, s := range []string{"", "<a/>", "x", "<a>", "\xff", "\x00", "<!DOCTYPE a>", nodes, deep, marked, "<a x='1' x='1'/>", "<p:a/>"} {
		refused(t, padded(s, more), api.ErrLimit)
		refused(t, strings.Repeat("\xff", more)+s, api.ErrLimit)
	}
	refused(t, string(make([]byte, more)), api.ErrLimit)
	refused(t, strings.Repeat("\xff", api.MaxBytes), api.ErrForm)
	refused(t, string(make([]byte, api.MaxBytes)), api.ErrForm)
	refused(t, strings.Repeat("<a>", api.MaxBytes/3), api.ErrForm)
	refused(t, strings.Repeat("<", api.MaxBytes), api.ErrForm)
	refused(t, strings.Repeat(" ", api.MaxBytes), api.ErrForm)
	// Beyond another limit, and no text, no document, or not formed, ahead of it and behind it.
	for _, s := range []string{nodes, deep, marked} {
		refused(t, s, api.ErrLimit)
		for _, w := range []string{"\xff", "\x00", "x", "&lt;", "<b/>", "<b", "<!--c", "<!--c--d-->", "<?xml?>", "<?i", "<![CDATA[]]>", "<!DOCTYPE a>", "</a>", "\ufeff"} {
			unformed(t, w+s, s+w)
		}
		unformed(t, s[:len(s)-1], s[1:])
		for _, w := range []string{"<p:b/>", "<b x='1' x='2'/>", "<b p:x='1'/>", "<b xmlns:p=''/>", "<b x='<'/>", "<b>&x;</b>", "<b>]]></b>", "<!--c--d-->", "<?xml?>", "<b>", "</b>", "<b></c>", "<b xmlns:xml='u'/>", "<xmlns:b/>"} {
			unformed(t, "<a>"+w+s+"</a>", "<a>"+s+w+"</a>")
		}
		refused(t, "<a><b/>"+s+"<b/></a>", api.ErrLimit)
	}
	unformed(t, "<a"+marks(api.MaxMarks, 0)+" xmlns:p0='u'/>", "<a"+marks(0, api.MaxMarks)+" x0=''/>", "<a"+marks(9, api.MaxMarks)+" p0:y='' p1:y=''/>", "<a"+marks(0, api.MaxMarks)+" y/>")
}

// TestMemory has the bytes as they were, whatever they are, and the document as it was, whatever becomes of them.
func TestMemory(t *testing.T) {
	for _, s := range []string{rich, "<a/>", "", "<a", "\xff", "<a>\r\n</a>", "<a x='\t&lt;'/>", "<p:a/>", nested(api.MaxDepth+1, ""), padded("<a/>", api.MaxBytes+1)} {
		spare := "spare \r\n room"
		all := []byte(s + spare)
		b := all[:len(s)]
		d, e := Parse(b)
		if string(all) != s+spare {
			t.Errorf("%.80q: the bytes are changed", s)
		}
		again, eAgain := Parse(bytes.Clone(b))
		if e != eAgain || (d == nil) != (again == nil) {
			t.Errorf("%.80q: %v, and %v", s, e, eAgain)
		}
		if d == nil {
			continue
		}
		want := d.Nodes()
		for i := range all {
			all[i] ^= 0xff
		}
		if !reflect.DeepEqual(d.Nodes(), want) || !reflect.DeepEqual(again.Nodes(), want) {
			t.Errorf("%.80q: the document is changed", s)
		}
		for i := range all {
			all[i] = 0
		}
		is(t, s, want[1:]...)
		if !reflect.DeepEqual(d.Nodes(), want) {
			t.Errorf("%.80q: the document is changed by another", s)
		}
	}
}

// TestBytes has nothing, and bytes that aren't text, of each byte alone and in a document.
func TestBytes(t *testing.T) {
	for _, b := range [][]byte{nil, {}} {
		if d, e := Parse(b); d != nil || e != api.ErrForm {
			t.Error(d, e)
		}
	}
	for n := range 256 {
		c := string([]byte{byte(n)})
		unformed(t, c, "<"+c, "<"+c+">", c+c)
		if n >= 0x80 || n < 0x20 && !strings.Contains("\t\n\r", c) {
			unformed(t, around(c)...)
			unformed(t, "<a"+c+"/>", "<a "+c+"/>", "<a x='"+c+"'/>", "<a><![CDATA["+c+"]]></a>", "<!--"+c+"--><a/>", "<?i "+c+"?><a/>", "<?xml version='1.0'"+c+"?><a/>", "<a></a"+c+">")
		}
	}
}
