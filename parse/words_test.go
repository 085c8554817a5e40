package parse

import (
	"reflect"
	"regexp"
	"strconv"
	"strings"
	"testing"

	"apostille/api"
	"apostille/doc"
	"apostille/name"
	"apostille/utf"
)

const xmlSpace = "http://www.w3.org/XML/1998/namespace"

// The chapter's words, read anew, by expressions and without haste; a document that is refused by
// it is nil. What is formed, and the limits, are left to layer 7, whose tests hold it to its words.

const (
	blanksRE = `[ \t\n]+`
	mayRE    = `[ \t\n]*`
	eqRE     = mayRE + `=` + mayRE
	fullRE   = `([-.:\w\x{B7}-\x{EFFFF}]+)`
	markRE   = blanksRE + fullRE + eqRE + `(?:'([^']*)'|"([^"]*)")`
)

func inQuotes(re string) string { return `(?:'` + re + `'|"` + re + `")` }

var (
	endsOfLines   = regexp.MustCompile(`\r\n?`)
	declarationRE = regexp.MustCompile(`\A<\?xml` + blanksRE + `version` + eqRE + inQuotes(`1\.0`) +
		`(?:` + blanksRE + `encoding` + eqRE + inQuotes(`[Uu][Tt][Ff]-8`) + `)?` +
		`(?:` + blanksRE + `standalone` + eqRE + inQuotes(`(?:yes|no)`) + `)?` + mayRE + `\?>`)
	blankRE       = regexp.MustCompile(`\A` + blanksRE)
	commentRE     = regexp.MustCompile(`\A<!--((?s:.*?))-->`)
	instructionRE = regexp.MustCompile(`\A<\?([^ \t\n?]+)(?:` + blanksRE + `((?s:.*?)))??\?>`)
	dataRE        = regexp.MustCompile(`\A<!\[CDATA\[((?s:.*?))\]\]>`)
	textRE        = regexp.MustCompile(`\A[^<]+`)
	startRE       = regexp.MustCompile(`\A<` + fullRE + `((?:` + markRE + `)*)` + mayRE + `(/?)>`)
	endRE         = regexp.MustCompile(`\A</` + fullRE + mayRE + `>`)
	marksRE       = regexp.MustCompile(markRE)
	referenceRE   = regexp.MustCompile(`&(?:(lt|gt|amp|apos|quot)|#([0-9]+)|#x([0-9a-fA-F]+));`)
)

// wordsReader reads a document's text part by part: what is left, and the nodes so far.
type wordsReader struct {
	s     string
	nodes []api.Node
}

func parseByWords(b []byte) (*doc.Doc, api.Errno) {
	if len(b) > api.MaxBytes {
		return nil, api.ErrLimit
	}
	if !utf.Text(b) {
		return nil, api.ErrForm
	}
	r := &wordsReader{s: endsOfLines.ReplaceAllString(string(b), "\n"), nodes: []api.Node{{Parent: -1}}}
	r.take(declarationRE)
	r.beside()
	if !r.element(0) {
		return nil, api.ErrForm
	}
	r.beside()
	if r.s != "" {
		return nil, api.ErrForm
	}
	r.mean()
	return doc.Of(r.nodes)
}

// take reads what re says, and answers its groups; nil, if it isn't there.
func (r *wordsReader) take(re *regexp.Regexp) []string {
	m := re.FindStringSubmatch(r.s)
	if m != nil {
		r.s = r.s[len(m[0]):]
	}
	return m
}

func (r *wordsReader) beside() {
	for r.take(blankRE) != nil || r.remark(0) {
	}
}

// remark reads a comment or an instruction.
func (r *wordsReader) remark(parent int) bool {
	if m := r.take(commentRE); m != nil {
		r.nodes = append(r.nodes, api.Node{Kind: api.Comment, Parent: parent, Text: m[1]})
		return true
	}
	if m := r.take(instructionRE); m != nil {
		r.nodes = append(r.nodes, api.Node{Kind: api.Instruction, Parent: parent, Local: m[1], Text: m[2]})
		return true
	}
	return false
}

func (r *wordsReader) element(parent int) bool {
	m := r.take(startRE)
	if m == nil {
		return false
	}
	x := api.Node{Kind: api.Element, Parent: parent}
	var ok bool
	if x.Prefix, x.Local, ok = name.Split(m[1]); !ok {
		return false
	}
	for _, mark := range marksRE.FindAllStringSubmatch(m[2], -1) {
		prefix, local, ok := name.Split(mark[1])
		value, fine := meantByWords(strings.NewReplacer("\t", " ", "\n", " ").Replace(mark[2] + mark[3]))
		if !ok || !fine {
			return false
		}
		if mark[1] == "xmlns" {
			x.Decls = append(x.Decls, api.Decl{URI: value})
		} else if prefix == "xmlns" {
			x.Decls = append(x.Decls, api.Decl{Prefix: local, URI: value})
		} else {
			x.Attrs = append(x.Attrs, api.Attr{Prefix: prefix, Local: local, Value: value})
		}
	}
	r.nodes = append(r.nodes, x)
	return m[len(m)-1] == "/" || r.within(len(r.nodes)-1, m[1])
}

// within reads what is in an element, and its end tag.
func (r *wordsReader) within(n int, full string) bool {
	for {
		text, ok := r.texts()
		if !ok {
			return false
		}
		if text != "" {
			r.nodes = append(r.nodes, api.Node{Kind: api.Text, Parent: n, Text: text})
		}
		if m := r.take(endRE); m != nil {
			return m[1] == full
		}
		if !r.remark(n) && !r.element(n) {
			return false
		}
	}
}

// texts reads all texts and CDATA that stand side by side.
func (r *wordsReader) texts() (string, bool) {
	all := ""
	for {
		if m := r.take(dataRE); m != nil {
			all += m[1]
		} else if m := r.take(textRE); m != nil {
			text, ok := meantByWords(m[0])
			if !ok || strings.Contains(m[0], "]]>") {
				return "", false
			}
			all += text
		} else {
			return all, true
		}
	}
}

// meantByWords is s with what its references are in their places.
func meantByWords(s string) (string, bool) {
	ok := !strings.Contains(s, "<") && !strings.Contains(referenceRE.ReplaceAllString(s, ""), "&")
	return referenceRE.ReplaceAllStringFunc(s, func(ref string) string {
		m := referenceRE.FindStringSubmatch(ref)
		if m[1] != "" {
			return map[string]string{"lt": "<", "gt": ">", "amp": "&", "apos": "'", "quot": `"`}[m[1]]
		}
		n, err := strconv.ParseUint(m[2], 10, 31)
		if m[3] != "" {
			n, err = strconv.ParseUint(m[3], 16, 31)
		}
		ok = ok && err == nil && utf.Xml(rune(n))
		return string(rune(n))
	}), ok
}

// mean sets the URIs.
func (r *wordsReader) mean() {
	for i := range r.nodes {
		x := &r.nodes[i]
		if x.Kind == api.Element {
			x.URI = r.uri(i, x.Prefix)
		}
		for k := range x.Attrs {
			if a := &x.Attrs[k]; a.Prefix != "" {
				a.URI = r.uri(i, a.Prefix)
			}
		}
	}
}

func (r *wordsReader) uri(n int, prefix string) string {
	if prefix == "xml" {
		return xmlSpace
	}
	for ; n >= 0; n = r.nodes[n].Parent {
		for _, d := range r.nodes[n].Decls {
			if d.Prefix == prefix {
				return d.URI
			}
		}
	}
	return ""
}

// counts tells how many texts were held against the words, and how many of them are documents.
type counts struct{ all, documents int }

// checkWords holds Parse of s against the words.
func (c *counts) checkWords(t *testing.T, s string) {
	t.Helper()
	c.all++
	want, wantErr := parseByWords([]byte(s))
	d, e := Parse([]byte(s))
	if e != wantErr || (d == nil) != (want == nil) {
		t.Fatalf("%q: %v, but by the words %v", s, e, wantErr)
	}
	if d == nil {
		return
	}
	c.documents++
	if !reflect.DeepEqual(d.Nodes(), want.Nodes()) {
		t.Fatalf("%q: %v, but by the words %v", s, d.Nodes(), want.Nodes())
	}
}

// holds fails if hardly any text was a document, or hardly any was none.
func (c *counts) holds(t *testing.T, least int) {
	t.Helper()
	if c.documents < least || c.all-c.documents < least {
		t.Errorf("of %d only %d are documents", c.all, c.documents)
	}
}

// walk goes through all rows of at most so many parts, each between ahead and behind.
func (c *counts) walk(t *testing.T, ahead, behind string, most int, parts ...string) {
	t.Helper()
	c.checkWords(t, ahead+behind)
	if most == 0 {
		return
	}
	for _, p := range parts {
		c.walk(t, ahead+p, behind, most-1, parts...)
	}
}

func TestShortContents(t *testing.T) {
	var c counts
	parts := []string{"<a>", "</a>", "<b/>", "x", " ", "<!--c-->", "<?i j?>", "<![CDATA[y]]>", "<![CDATA[]]>"}
	c.walk(t, "", "", 5, parts...)
	c.walk(t, "<a>", "</a>", 5, parts...)
	c.walk(t, "<a>", "</a>", 6, "<a>", "</a>", "<b>", "</b>", "<a/>", "x")
	c.walk(t, "<a>", "</a>", 7, "x", "<![CDATA[", "]]>", "<b/>")
	c.walk(t, "", "", 8, "<a>", "</a>", "<p:a xmlns:p='u'>", "</p:a>")
	c.holds(t, 1000)
}

func TestShortTags(t *testing.T) {
	var c counts
	c.walk(t, "<a", ">", 5, " ", "b", "=", "'", `"`, "/", ">", "<", ":", "\r")
	c.walk(t, "<a ", "/>", 6, "b", "=", "'", " ", "c", "&")
	c.walk(t, "<a ", ">", 6, "b='", "'", `"`, " ", `c="`, "&lt;", "/")
	c.walk(t, "<a></", ">", 4, "a", " ", "/", "<", ">", "b", ":", "\n")
	c.walk(t, "<", ">", 5, "a", "/", "b", ":", "!", "?", "<", " ")
	c.walk(t, "<a xmlns:p='u'", "/>", 4, " p:x='1'", " x='2'", " q:x='3'", " xmlns:q='u'", " xmlns='u'", " xmlns:q='v'", " xmlns:q=''")
	c.holds(t, 1000)
}

func TestShortDeclarations(t *testing.T) {
	var c counts
	parts := []string{" version='1.0'", ` encoding="utf-8"`, " standalone='no'", " ", "version", "x", "?>", "="}
	c.walk(t, "<?xml", "?><a/>", 5, parts...)
	c.walk(t, "<?xml version='1.0'", "?><a/>", 4, append(parts, "<?xml", "?", ">")...)
	c.walk(t, "<?xml ", "?><a/>", 5, "version", "=", "'1.0'", `"1.0"`, " ", "'", "1.0", "\r\n")
	c.walk(t, "<?xml version='1.0' ", "?><a/>", 5, "encoding", "standalone", "=", "'UTF-8'", `"yes"`, "\t", "'no'")
	c.walk(t, "", "<a/>", 5, "<?xml version='1.0'?>", " ", "<?xml", "<!--", "-->", "<?i?>", "?>")
	c.holds(t, 100)
}

func TestShortRemarks(t *testing.T) {
	var c counts
	for _, at := range [][2]string{{"", "<a/>"}, {"<a/>", ""}, {"<a>", "</a>"}} {
		c.walk(t, at[0]+"<!--", "-->"+at[1], 6, "-", ">", "a", "<!--", "-->")
		c.walk(t, at[0]+"<!", "-->"+at[1], 5, "-", ">", "a", "!", "<")
		c.walk(t, at[0]+"<?", "?>"+at[1], 6, "a", " ", "?", ">", ":", "<?", "\r")
		c.walk(t, at[0]+"<?", "?>"+at[1], 4, "x", "m", "l", "X", "M", "L", " ", "-")
		c.walk(t, at[0]+"<![CDATA[", "]]>"+at[1], 6, "]", ">", "a", "<![CDATA[", "&", "<")
		c.walk(t, at[0]+"<!", "]]>"+at[1], 4, "[", "CDATA", "]", "a", "cdata", " ")
	}
	c.holds(t, 1000)
}

func TestShortLines(t *testing.T) {
	var c counts
	for _, at := range [][2]string{
		{"", "<a/>"}, {"<a/>", ""}, {"<a>", "</a>"}, {"<a b='", "'/>"}, {"<a xmlns='", "'/>"}, {"<a><!--", "--></a>"}, {"<a><?i", "?></a>"},
		{"<a><![CDATA[", "]]></a>"}, {"<a", "/>"}, {"<a></a", ">"}, {"<a b", "='c'/>"}, {"<?xml", "version='1.0'?><a/>"}, {"<?xml version='1.0'", "?><a/>"},
	} {
		c.walk(t, at[0], at[1], 6, "\r", "\n", "a", " ")
		c.walk(t, at[0], at[1], 5, "\r", "\n", "\t", "&#13;", "&#xA;", "&#9;")
	}
	c.holds(t, 1000)
}

// TestShortMeanings goes through elements that declare some prefixes and have some, below and behind each other.
func TestShortMeanings(t *testing.T) {
	var c counts
	marks := []string{"", " xmlns='u'", " xmlns=''", " xmlns:p='u'", " xmlns:p='v'", " p:x='1'", " p:x='' xmlns:p='w'", " x='' p:x='' q:x='' xmlns:q='u'", " xmlns:p='" + xmlSpace + "'", " xml:x='1'"}
	fulls := []string{"a", "p:a", "q:a", "xml:a", "xmlns:a"}
	for _, outer := range marks {
		for _, full := range fulls[:2] {
			for _, middle := range marks {
				for _, inner := range marks {
					for _, last := range fulls {
						c.checkWords(t, "<"+full+outer+"><"+full+middle+"><"+last+inner+"/></"+full+"></"+full+">")
						c.checkWords(t, "<"+full+outer+"><"+full+middle+"/><"+last+inner+"></"+last+"></"+full+">")
					}
				}
			}
		}
	}
	c.holds(t, 1000)
}

// rich has a bit of all that a document may have.
const rich = "<?xml version='1.0' encoding=\"UTF-8\" standalone='no' ?>\r\n<!--c-d-->\t<?go now ?>\n" +
	"<p:a xmlns:p = \"u\" xmlns='v' p:x='1\r2&#xA;3' y=\"it's\">t&amp;\r\n<![CDATA[<&]>]]>]]&gt;" +
	"<b xmlns='' z='>'/><b xmlns=''\n>x<!--\r-->y</b ><?i?><p:c xml:lang='\u00e9'></p:c>\u6587</p:a>\n<!-- - --><?j k?>\n"

// TestEachChange changes a document at each place: a byte is left out or doubled, or another one stands in its place or ahead of it.
func TestEachChange(t *testing.T) {
	var c counts
	others := []string{" ", "\r", "\n", "\x00", "\xff", "<", ">", "/", "!", "?", "-", "'", `"`, "=", "&", ";", "#", ":", "[", "]", "a", "x", "p", "1", "</", "/>", "<b>", "]]>", "-->", "?>", "\u6587"}
	s := rich
	c.checkWords(t, s)
	for i := range len(s) {
		c.checkWords(t, s[:i])
		c.checkWords(t, s[i:])
		c.checkWords(t, s[:i]+s[i+1:])
		c.checkWords(t, s[:i+1]+s[i:])
		for _, o := range others {
			c.checkWords(t, s[:i]+o+s[i:])
			c.checkWords(t, s[:i]+o+s[i+1:])
		}
		for k := i; k < len(s) && k < i+12; k++ {
			c.checkWords(t, s[:i]+s[k:])
		}
	}
	c.holds(t, 1000)
}
