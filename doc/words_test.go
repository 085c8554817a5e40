package doc

import (
	"reflect"
	"regexp"
	"slices"
	"strings"
	"testing"
	"unicode/utf8"

	"apostille/api"
)

const (
	xmlSpace   = "http://www.w3.org/XML/1998/namespace"
	xmlnsSpace = "http://www.w3.org/2000/xmlns/"
)

// The chapter's words, worked out anew, one by one and without haste.

func aboveByWords(l []api.Node, n int) []int {
	var up []int
	for n = l[n].Parent; n >= 0; n = l[n].Parent {
		up = append(up, n)
	}
	return up
}

func formedByWords(l []api.Node) bool {
	if len(l) == 0 || !reflect.DeepEqual(l[0], api.Node{Kind: api.Root, Parent: -1}) {
		return false
	}
	var kinds []int
	for i := 1; i < len(l); i++ {
		may := append([]int{i - 1}, aboveByWords(l, i-1)...)
		p := l[i].Parent
		if !slices.Contains(may, p) || l[p].Kind != api.Root && l[p].Kind != api.Element {
			return false
		}
		if !kindByWords(l, i) {
			return false
		}
		if p == 0 {
			kinds = append(kinds, l[i].Kind)
		}
	}
	elements := 0
	for _, k := range kinds {
		if k == api.Element {
			elements++
		} else if k != api.Comment && k != api.Instruction {
			return false
		}
	}
	return elements == 1
}

var (
	// names are those of the characters that the tests of this file have.
	names  = regexp.MustCompile(`\A[A-Za-z_][-.0-9A-Za-z_]*\z`)
	noText = regexp.MustCompile(`[^\t\n\r\x{20}-\x{D7FF}\x{E000}-\x{FFFD}\x{10000}-\x{10FFFF}]`)
	noData = regexp.MustCompile(`\A[ \t\n\r]|\?>`)
)

func isName(s string) bool { return names.MatchString(s) }

func isTextByWords(s string) bool { return utf8.ValidString(s) && !noText.MatchString(s) }

// kindByWords tells whether the node i is formed, by its Kind; its Parent may be.
func kindByWords(l []api.Node, i int) bool {
	x := l[i]
	rest := x
	rest.Kind, rest.Parent = 0, 0
	switch x.Kind {
	case api.Element:
		rest.Local, rest.Prefix, rest.URI, rest.Decls, rest.Attrs = "", "", "", nil, nil
		if !isName(x.Local) || x.Prefix != "" && !isName(x.Prefix) || !markedByWords(l, i) {
			return false
		}
	case api.Text:
		rest.Text = ""
		if x.Text == "" || !isTextByWords(x.Text) || l[i-1].Kind == api.Text && l[i-1].Parent == x.Parent {
			return false
		}
	case api.Comment:
		rest.Text = ""
		if !isTextByWords(x.Text) || strings.Contains(x.Text+"-", "--") {
			return false
		}
	case api.Instruction:
		rest.Local, rest.Text = "", ""
		if !isName(x.Local) || strings.ToLower(x.Local) == "xml" || !isTextByWords(x.Text) || noData.MatchString(x.Text) {
			return false
		}
	default:
		return false
	}
	return reflect.DeepEqual(rest, api.Node{})
}

func markedByWords(l []api.Node, i int) bool {
	x := l[i]
	for k, d := range x.Decls {
		if d.Prefix != "" && !isName(d.Prefix) || d.Prefix == "xmlns" || !isTextByWords(d.URI) || d.URI == "" && d.Prefix != "" {
			return false
		}
		if d.Prefix == "xml" && d.URI != xmlSpace || d.Prefix != "xml" && d.URI == xmlSpace || d.URI == xmlnsSpace {
			return false
		}
		for _, o := range x.Decls[:k] {
			if o.Prefix == d.Prefix {
				return false
			}
		}
	}
	for k, a := range x.Attrs {
		if !isName(a.Local) || a.Prefix != "" && !isName(a.Prefix) || !isTextByWords(a.Value) || a.Prefix == "" && a.Local == "xmlns" {
			return false
		}
		if (a.URI == "") != (a.Prefix == "") || a.Prefix != "" && !meansByWords(l, i, a.Prefix, a.URI) {
			return false
		}
		for _, o := range x.Attrs[:k] {
			if o.Local == a.Local && o.URI == a.URI {
				return false
			}
		}
	}
	return meansByWords(l, i, x.Prefix, x.URI)
}

func meansByWords(l []api.Node, i int, prefix, uri string) bool {
	if prefix == "xml" || prefix == "xmlns" {
		return prefix == "xml" && uri == xmlSpace
	}
	for _, n := range append([]int{i}, aboveByWords(l, i)...) {
		for _, d := range l[n].Decls {
			if d.Prefix == prefix {
				return d.URI == uri
			}
		}
	}
	return prefix == "" && uri == ""
}

// checkWords holds Of(l) against the words, and of a document what it tells against l.
func checkWords(t *testing.T, l []api.Node) {
	t.Helper()
	d, e := Of(l)
	if !formedByWords(l) {
		if e != api.ErrForm || d != nil {
			t.Fatalf("%v: %v, but it isn't formed", l, e)
		}
		return
	}
	if e != api.OK || d == nil {
		t.Fatalf("%v: %v, but it is formed", l, e)
	}
	checkTells(t, d, l)
}

// checkTells holds what d tells against its nodes l.
func checkTells(t *testing.T, d *Doc, l []api.Node) {
	t.Helper()
	same := d.Len() == len(l) && reflect.DeepEqual(d.Nodes(), l)
	for n := range l {
		var kids []int
		end, top := n+1, 0
		for i := range l {
			if l[i].Parent == n {
				kids = append(kids, i)
			}
			if slices.Contains(aboveByWords(l, i), n) {
				end = i + 1
			}
			if l[i].Parent == 0 && l[i].Kind == api.Element {
				top = i
			}
		}
		same = same && reflect.DeepEqual(d.Node(n), l[n]) && slices.Equal(d.Kids(n), kids) && slices.Equal(d.Up(n), aboveByWords(l, n)) && d.End(n) == end && d.Top() == top
	}
	if !same {
		t.Fatalf("%v: %d, %v, top %d", l, d.Len(), d.Nodes(), d.Top())
	}
}

// simple is a node of a Kind with nothing in it that it need not have.
func simple(kind, parent int) api.Node {
	x := api.Node{Kind: kind, Parent: parent}
	switch kind {
	case api.Element, api.Instruction:
		x.Local = "a"
	case api.Text:
		x.Text = "t"
	}
	return x
}

// walk goes through l with all that follow it by next, up to a length.
func walk(l []api.Node, length int, next func(i int) []api.Node, check func(l []api.Node)) {
	check(l)
	if len(l) == length {
		return
	}
	for _, x := range next(len(l)) {
		walk(append(slices.Clip(l), x), length, next, check)
	}
}

// TestShortLists goes through all short lists of nodes of all Kinds and Parents.
func TestShortLists(t *testing.T) {
	each := func(below int, kinds ...int) func(i int) []api.Node {
		return func(i int) []api.Node {
			var l []api.Node
			for _, kind := range kinds {
				for p := -below; p <= i-1+below; p++ {
					l = append(l, simple(kind, p))
				}
			}
			return l
		}
	}
	check := func(l []api.Node) { checkWords(t, l) }
	root := []api.Node{{Parent: -1}}
	walk(nil, 3, each(2, api.Root, api.Element, api.Text, api.Comment, api.Instruction, 5, -1), check)
	walk(root, 4, each(2, api.Root, api.Element, api.Text, api.Comment, api.Instruction, 5, -1), check)
	walk(root, 5, each(1, api.Root, api.Element, api.Text, api.Comment, api.Instruction), check)
	walk(root, 7, each(0, api.Element, api.Text), check)
	walk(root, 8, each(0, api.Element), check)
}

// TestMeanings goes through elements that declare some of some prefixes, below and behind each other.
func TestMeanings(t *testing.T) {
	decls := [][]api.Decl{nil, {{Prefix: "", URI: "u"}}, {{Prefix: "", URI: ""}}, {{Prefix: "p", URI: "u"}}, {{Prefix: "p", URI: "v"}}, {{Prefix: "q", URI: "u"}, {Prefix: "p", URI: "u"}}}
	var elements []api.Node
	for _, l := range decls {
		for _, x := range []api.Node{{}, {URI: "u"}, {Prefix: "p", URI: "u"}} {
			elements = append(elements, api.Node{Kind: api.Element, Prefix: x.Prefix, URI: x.URI, Local: "a", Decls: l})
		}
	}
	attrs := [][]api.Attr{nil}
	var last []api.Node
	for _, prefix := range []string{"", "p", "q", "xml", "xmlns"} {
		for _, uri := range []string{"", "u", "v", xmlSpace} {
			attrs = append(attrs, []api.Attr{{Prefix: prefix, Local: "x", URI: uri}})
			last = append(last, api.Node{Kind: api.Element, Prefix: prefix, URI: uri, Local: "b"})
		}
	}
	for _, a := range elements {
		for _, b := range elements {
			a.Parent, b.Parent = 0, 1
			for _, c := range last {
				for _, c.Parent = range []int{1, 2} {
					for _, c.Decls = range [][]api.Decl{nil, {{Prefix: "p", URI: "v"}}, {{Prefix: "", URI: "v"}}} {
						for _, c.Attrs = range attrs {
							checkWords(t, []api.Node{{Parent: -1}, a, b, c})
						}
					}
				}
			}
		}
	}
}

// TestMarkLists goes through all short lists of declarations and of attributes.
func TestMarkLists(t *testing.T) {
	var decls []api.Decl
	for _, prefix := range []string{"", "p", "q", "xml", "xmlns", "XML", "p:q", "1"} {
		for _, uri := range []string{"", "u", "p", xmlSpace, xmlnsSpace, "\x00", xmlSpace + "/", "\xff"} {
			decls = append(decls, api.Decl{Prefix: prefix, URI: uri})
		}
	}
	list := func(top api.Node) { checkWords(t, []api.Node{{Parent: -1}, top}) }
	list(api.Node{Kind: api.Element, Local: "a"})
	for _, c := range decls {
		for _, d := range decls {
			for _, uri := range []string{"", "u"} {
				list(api.Node{Kind: api.Element, Local: "a", URI: uri, Decls: []api.Decl{c, d}})
				list(api.Node{Kind: api.Element, Local: "a", URI: uri, Decls: []api.Decl{c}})
			}
		}
	}
	var attrs []api.Attr
	for _, prefix := range []string{"", "p", "q", "r", "xml", "xmlns", "z"} {
		for _, local := range []string{"x", "y", "xmlns", "", "1"} {
			for _, uri := range []string{"", "u", "v", xmlSpace} {
				for _, value := range []string{"", "v", "\x01"} {
					attrs = append(attrs, api.Attr{Prefix: prefix, Local: local, URI: uri, Value: value})
				}
			}
		}
	}
	declared := []api.Decl{{Prefix: "p", URI: "u"}, {Prefix: "q", URI: "u"}, {Prefix: "r", URI: "v"}, {URI: "u"}}
	for _, a := range attrs {
		for _, b := range attrs {
			list(api.Node{Kind: api.Element, Local: "a", URI: "u", Decls: declared, Attrs: []api.Attr{a, b}})
		}
	}
}
