package ident

import (
	"math"
	"reflect"
	"strings"
	"testing"

	"apostille/api"
	"apostille/doc"
)

// The chapter's words, worked out anew, one by one and without haste.

// namedBy is an identifier, and the element that is called so.
type namedBy struct {
	id string
	n  int
}

// namedByWords are the identifiers of the nodes l, in their order, as often as they stand there.
func namedByWords(l []api.Node) []namedBy {
	var named []namedBy
	for n, x := range l {
		for _, a := range x.Attrs {
			plain := a.URI == "" && (a.Local == "Id" || a.Local == "ID" || a.Local == "id")
			if plain || a.URI == xmlSpace && a.Local == "id" {
				named = append(named, namedBy{a.Value, n})
			}
		}
	}
	return named
}

func twiceByWords(named []namedBy) bool {
	for i, x := range named {
		for _, y := range named[i+1:] {
			if x.id == y.id {
				return true
			}
		}
	}
	return false
}

func findByWords(named []namedBy, id string) (int, bool) {
	for _, x := range named {
		if x.id == id {
			return x.n, true
		}
	}
	return 0, false
}

// lessByWords tells whether a stands ahead of b: by the first byte that differs, or as what b begins with.
func lessByWords(a, b string) bool {
	for i := range len(a) {
		if i >= len(b) {
			return false
		}
		if a[i] != b[i] {
			return a[i] < b[i]
		}
	}
	return len(a) < len(b)
}

// allByWords puts each identifier ahead of the first one that is greater.
func allByWords(named []namedBy) []string {
	var all []string
	for _, x := range named {
		at := len(all)
		for at > 0 && lessByWords(x.id, all[at-1]) {
			at--
		}
		all = append(all, "")
		copy(all[at+1:], all[at:])
		all[at] = x.id
	}
	return all
}

// asked are texts to be found, or not: those of the document l, and such as are near to them.
func asked(l []api.Node) []string {
	all := []string{"", " ", "x", "X", "Id", "ID", "id", "xml:id", "\x00", "\xff"}
	for _, x := range l {
		all = append(all, x.Text, x.Local, x.Prefix, x.URI)
		for _, y := range x.Decls {
			all = append(all, y.Prefix, y.URI)
		}
		for _, a := range x.Attrs {
			v := a.Value
			all = append(all, a.Local, v, v+v, v+" ", " "+v, v+"\x00", v+"x", strings.ToUpper(v), strings.ToLower(v), strings.TrimSpace(v))
			if v != "" {
				all = append(all, v[1:], v[:len(v)-1])
			}
		}
	}
	return all
}

// checkWords holds all that is answered of d against the words.
func checkWords(t *testing.T, d *doc.Doc) {
	t.Helper()
	l := d.Nodes()
	named := namedByWords(l)
	x, e := Of(d)
	if twiceByWords(named) {
		if x != nil || e != api.ErrTwice {
			t.Errorf("%v: %v, %v", named, x, e)
		}
		return
	}
	if e != api.OK || x == nil || x.Doc != d {
		t.Fatalf("%v: %v, %v", named, x, e)
	}
	for _, id := range asked(l) {
		n, ok := x.Find(id)
		want, there := findByWords(named, id)
		if n != want || ok != there {
			t.Errorf("%v: %q: %d, %v", named, id, n, ok)
		}
	}
	all, want := x.All(), allByWords(named)
	if len(all) != len(want) {
		t.Fatalf("%v: %q", named, all)
	}
	for i := range all {
		if all[i] != want[i] {
			t.Errorf("%v: %q, not %q", named, all, want)
		}
	}
}

// checkPromoted holds what x answers as a document against what d does.
func checkPromoted(t *testing.T, x *Index, d *doc.Doc) {
	t.Helper()
	if x.Doc != d || x.Len() != d.Len() || x.Top() != d.Top() || !reflect.DeepEqual(x.Nodes(), d.Nodes()) {
		t.Error(x.Len(), x.Top(), x.Nodes())
	}
	numbers := []int{math.MinInt, -2, -1, d.Len(), d.Len() + 1, math.MaxInt}
	for n := range d.Len() {
		numbers = append(numbers, n)
	}
	for _, n := range numbers {
		if !reflect.DeepEqual(x.Node(n), d.Node(n)) || !reflect.DeepEqual(x.Kids(n), d.Kids(n)) || !reflect.DeepEqual(x.Up(n), d.Up(n)) || x.End(n) != d.End(n) {
			t.Error(n, x.Node(n), x.Kids(n), x.Up(n), x.End(n))
		}
	}
}
