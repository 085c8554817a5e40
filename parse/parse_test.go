package parse

import (
	"reflect"
	"testing"

	"apostille/api"
	"apostille/doc"
)

// document is the document of the bytes s.
func document(t *testing.T, s string) *doc.Doc {
	t.Helper()
	d, e := Parse([]byte(s))
	if e != api.OK || d == nil {
		t.Fatalf("%.200q: %v", s, e)
	}
	return d
}

// is fails if the nodes of s, but for the Root, aren't those of want.
func is(t *testing.T, s string, want ...api.Node) {
	t.Helper()
	d, e := Parse([]byte(s))
	if e != api.OK || d == nil {
		t.Errorf("%.200q: %v", s, e)
		return
	}
	want = append([]api.Node{{Kind: api.Root, Parent: -1}}, want...)
	if got := d.Nodes(); !reflect.DeepEqual(got, want) {
		t.Errorf("%.200q: %+v", s, got)
	}
}

// same fails if s hasn't the nodes of other.
func same(t *testing.T, s, other string) {
	t.Helper()
	is(t, s, document(t, other).Nodes()[1:]...)
}

// refused fails if s is a document, is refused by another error, or if there is a document beside the error.
func refused(t *testing.T, s string, want api.Errno) {
	t.Helper()
	if d, e := Parse([]byte(s)); e != want || d != nil {
		t.Errorf("%.200q: %v, %v", s, d, e)
	}
}

func unformed(t *testing.T, l ...string) {
	t.Helper()
	for _, s := range l {
		refused(t, s, api.ErrForm)
	}
}

// around lays s where comments, instructions and blanks may stand beside the element, and in it.
func around(s string) []string {
	return []string{s + "<a/>", "<a/>" + s, "<a>" + s + "</a>", "<?xml version='1.0'?>" + s + "<a/>", "<a><b>x" + s + "</b></a>"}
}

func element(parent int, local string, attrs ...api.Attr) api.Node {
	return api.Node{Kind: api.Element, Parent: parent, Local: local, Attrs: attrs}
}

func text(parent int, s string) api.Node {
	return api.Node{Kind: api.Text, Parent: parent, Text: s}
}

func comment(parent int, s string) api.Node {
	return api.Node{Kind: api.Comment, Parent: parent, Text: s}
}

func instruction(parent int, target, s string) api.Node {
	return api.Node{Kind: api.Instruction, Parent: parent, Local: target, Text: s}
}

// attr is an attribute without a prefix.
func attr(local, value string) api.Attr { return api.Attr{Local: local, Value: value} }

func TestExample(t *testing.T) {
	is(t, "<a b='1'>x<!--y--></a>", element(0, "a", attr("b", "1")), text(1, "x"), comment(1, "y"))
}

func TestRich(t *testing.T) {
	p := api.Decl{Prefix: "p", URI: "u"}
	none := api.Decl{}
	is(t, rich,
		comment(0, "c-d"),
		instruction(0, "go", "now "),
		api.Node{
			Kind: api.Element, Prefix: "p", Local: "a", URI: "u", Decls: []api.Decl{p, {URI: "v"}},
			Attrs: []api.Attr{{Prefix: "p", Local: "x", URI: "u", Value: "1 2\n3"}, attr("y", "it's")},
		},
		text(3, "t&\n<&]>]]>"),
		api.Node{Kind: api.Element, Parent: 3, Local: "b", Decls: []api.Decl{none}, Attrs: []api.Attr{attr("z", ">")}},
		api.Node{Kind: api.Element, Parent: 3, Local: "b", Decls: []api.Decl{none}},
		text(6, "x"),
		comment(6, "\n"),
		text(6, "y"),
		instruction(3, "i", ""),
		api.Node{
			Kind: api.Element, Parent: 3, Prefix: "p", Local: "c", URI: "u",
			Attrs: []api.Attr{{Prefix: "xml", Local: "lang", URI: xmlSpace, Value: "\u00e9"}},
		},
		text(3, "\u6587"),
		comment(0, " - "),
		instruction(0, "j", "k"),
	)
}
