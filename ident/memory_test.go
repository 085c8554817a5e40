package ident

import (
	"reflect"
	"slices"
	"strings"
	"testing"
	"unsafe"

	"apostille/api"
)

// spoil fills a list with something else, its spare room too.
func spoil(l []string) {
	l = l[:cap(l)]
	for i := range l {
		l[i] = "spoilt"
	}
}

// overwrite fills the memory of a text with something else.
func overwrite(s string) {
	room := unsafe.Slice(unsafe.StringData(s), len(s))
	for i := range room {
		room[i] = '!'
	}
}

// copied are texts like those of l, in memory of their own.
func copied(l []string) []string {
	var c []string
	for _, x := range l {
		c = append(c, strings.Clone(x))
	}
	return c
}

// told is all that is said of what an index has, and of some that it doesn't have.
func told(x *Index) []any {
	l := []any{copied(x.All())}
	for _, id := range asked(x.Nodes()) {
		n, ok := x.Find(id)
		l = append(l, n, ok)
	}
	return l
}

// TestStays is R3 and R2: what becomes of an answer changes no other one, nor the index, nor the document.
func TestStays(t *testing.T) {
	for _, s := range []string{"<a/>", "<a Id='x'><b id='y'/></a>", "<a Id='yy'><b Id='xx'/><c ID='zz'/></a>", someDocument} {
		d := document(t, s)
		x := index(t, d)
		nodes, first := d.Nodes(), told(x)
		want, before, other := copied(x.All()), x.All(), index(t, d)
		l := x.All()
		behind := x.All()
		_ = append(l, "spoilt")
		spoil(l)
		if !slices.Equal(before, want) || !slices.Equal(behind, want) || !slices.Equal(x.All(), want) {
			t.Errorf("%s: %q, %q and %q, not %q", s, before, behind, x.All(), want)
		}
		l = x.All()
		for _, id := range l {
			overwrite(id)
		}
		if !slices.Equal(before, want) || !slices.Equal(behind, want) || !slices.Equal(x.All(), want) {
			t.Errorf("%s: texts are shared", s)
		}
		if !reflect.DeepEqual(told(x), first) || !reflect.DeepEqual(told(other), first) || !reflect.DeepEqual(told(index(t, document(t, s))), first) {
			t.Errorf("%s: something else is told", s)
		}
		if !reflect.DeepEqual(d.Nodes(), nodes) || x.Doc != d {
			t.Errorf("%s: the document is changed", s)
		}
	}
}

// TestHandedNodes is that what becomes of the nodes of a document, those handed in and those answered, changes no index.
func TestHandedNodes(t *testing.T) {
	l := document(t, someDocument).Nodes()
	d := documentOf(t, l)
	x := index(t, d)
	first := told(x)
	for _, nodes := range [][]api.Node{l, d.Nodes(), x.Nodes()} {
		for n := range nodes {
			for i, a := range nodes[n].Attrs {
				overwrite(a.Value)
				nodes[n].Attrs[i].Local = "Id"
			}
		}
	}
	if !reflect.DeepEqual(told(x), first) || !reflect.DeepEqual(told(index(t, d)), first) {
		t.Error("something else is told")
	}
}

// TestFindTexts asks by a text that is changed later.
func TestFindTexts(t *testing.T) {
	x := index(t, document(t, "<a Id='xx'><b Id='yy'/></a>"))
	room := []byte("xx")
	id := unsafe.String(&room[0], len(room))
	found(t, x, id, 1)
	copy(room, "yy")
	found(t, x, id, 2)
	copy(room, "zz")
	notFound(t, x, id)
	found(t, x, "xx", 1)
	found(t, x, "yy", 2)
}

// TestApart is that each document has an index of its own.
func TestApart(t *testing.T) {
	one, other := document(t, "<a Id='x'><b Id='y'/></a>"), document(t, "<a><b Id='x'/><c Id='z'/></a>")
	x, y := index(t, one), index(t, other)
	for range 2 {
		found(t, x, "x", 1)
		found(t, y, "x", 2)
		notFound(t, x, "z")
		notFound(t, y, "y")
		if _, e := Of(document(t, "<a Id='y'><b Id='y'/></a>")); e != api.ErrTwice {
			t.Error(e)
		}
	}
	if !slices.Equal(x.All(), []string{"x", "y"}) || !slices.Equal(y.All(), []string{"x", "z"}) {
		t.Error(x.All(), y.All())
	}
}
