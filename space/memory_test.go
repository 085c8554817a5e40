package space

import (
	"reflect"
	"slices"
	"strings"
	"testing"
	"unsafe"

	"apostille/api"
	"apostille/doc"
)

// spoil fills a list with something else, its spare room too.
func spoil(l []api.Decl) {
	l = l[:cap(l)]
	for i := range l {
		l[i] = api.Decl{Prefix: "spoilt", URI: "spoilt"}
	}
}

// TestSortedStays is R3: a list that is handed in stays as it is, its spare room too, and so does the answer,
// whatever becomes of that list.
func TestSortedStays(t *testing.T) {
	rest := pairs("c", "3", "a", "1", "", "0")
	for _, want := range [][]api.Decl{nil, pairs("b", "2"), pairs("b", "2", "a", "1"), pairs("a", "1", "b", "2"), pairs("a", "1", "a", "1", "a", "0", "c", "", "", "c")} {
		room := append(slices.Clone(want), rest...)
		l := room[:len(want)]
		got := Sorted(l...)
		if !slices.Equal(room, append(slices.Clone(want), rest...)) {
			t.Errorf("%v has become %v", want, room)
		}
		first := slices.Clone(got)
		spoil(l)
		if !slices.Equal(got, first) {
			t.Errorf("%v has become %v", first, got)
		}
		copy(room, append(slices.Clone(want), rest...))
		again := Sorted(l...)
		spoil(got)
		if !slices.Equal(room, append(slices.Clone(want), rest...)) || !slices.Equal(again, first) {
			t.Errorf("%v and %v share memory", got, room)
		}
		if got := Sorted(l...); !slices.Equal(got, first) {
			t.Errorf("%v, not %v", got, first)
		}
	}
}

// TestSortedTexts is R3 for texts: none is kept, neither of those that are handed in nor pieces of them.
func TestSortedTexts(t *testing.T) {
	said := "prefixURI"
	room := []byte(said)
	whole := unsafe.String(&room[0], len(room))
	got := Sorted(api.Decl{Prefix: whole[:6], URI: whole[6:]}, api.Decl{Prefix: whole, URI: whole})
	copy(room, strings.Repeat("!", len(room)))
	if !slices.Equal(got, pairs("prefix", "URI", said, said)) {
		t.Error(got)
	}
}

// TestFindTexts has a prefix that is changed later.
func TestFindTexts(t *testing.T) {
	d := document(t, "<a xmlns:p='p' xmlns:xm='xml'/>")
	for _, said := range []string{"p", "xm", "xml", "q"} {
		room := []byte(said)
		uri, ok := Find(d, 1, unsafe.String(&room[0], len(room)))
		first := strings.Clone(uri)
		copy(room, strings.Repeat("!", len(room)))
		if uri != first || ok != (said != "q") {
			t.Error(said, uri, ok)
		}
	}
}

// told is all that is in scope in d.
func told(d *doc.Doc) []any {
	var l []any
	for n := -2; n < d.Len()+2; n++ {
		l = append(l, Scope(d, n))
		for _, p := range prefixesOf(d.Nodes()) {
			uri, ok := Find(d, n, p)
			l = append(l, uri, ok)
		}
	}
	return l
}

// TestScopeStays is R3 and R2: what becomes of an answer doesn't change the document, nor another answer.
func TestScopeStays(t *testing.T) {
	s := "<a xmlns='u' xmlns:p='v'><b xmlns='' xmlns:p='w'/><c xmlns:z='x' xmlns:a='y'>t</c></a>"
	d := document(t, s)
	nodes, first := d.Nodes(), told(d)
	for n := range d.Len() {
		l, other := Scope(d, n), Scope(d, n)
		want := slices.Clone(l)
		spoil(l)
		if !slices.Equal(other, want) || !slices.Equal(Scope(d, n), want) {
			t.Errorf("%d: %v, not %v", n, other, want)
		}
	}
	if !reflect.DeepEqual(d.Nodes(), nodes) {
		t.Error("the document is changed")
	}
	if !reflect.DeepEqual(told(d), first) || !reflect.DeepEqual(told(document(t, s)), first) {
		t.Error("something else is told")
	}
}
