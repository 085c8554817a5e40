package point

import (
	"reflect"
	"slices"
	"testing"

	"apostille/api"
	"apostille/doc"
)

// spoil fills a list with something else, its spare room too.
func spoil(l []api.Point) {
	l = l[:cap(l)]
	for i := range l {
		l[i] = api.Point{N: 77, Part: 77, I: 77}
	}
}

// lists are all answers of d that are lists.
func lists(d *doc.Doc) [][]api.Point {
	l := [][]api.Point{All(d)}
	for n := -1; n <= d.Len(); n++ {
		l = append(l, Spaces(d, n), Marks(d, n))
	}
	return l
}

// told is all that is said of d's points, and of some that are none.
func told(d *doc.Doc) []any {
	l := []any{lists(d)}
	for n := -1; n <= d.Len(); n++ {
		for part := range 4 {
			for i := range 5 {
				p := api.Point{N: n, Part: part, I: i}
				l = append(l, Has(d, p), saidOf(d, p))
			}
		}
	}
	return l
}

// TestStays is R3 and R2: what becomes of an answer doesn't change the document, nor another answer.
func TestStays(t *testing.T) {
	d := document(t, someDocument)
	nodes, first := d.Nodes(), told(d)
	for i, l := range lists(d) {
		want := slices.Clone(l)
		all := lists(d)
		spoil(l)
		if !slices.Equal(all[i], want) || !slices.Equal(lists(d)[i], want) {
			t.Errorf("%d: %s, not %s", i, tell(all[i]), tell(want))
		}
		// Those of one answer are no others' either.
		for k, x := range all {
			before := lists(d)[k]
			spoil(all[i])
			if k != i && !slices.Equal(x, before) {
				t.Errorf("%d changes %d", i, k)
			}
		}
	}
	if !reflect.DeepEqual(d.Nodes(), nodes) {
		t.Error("the document is changed")
	}
	if !reflect.DeepEqual(told(d), first) || !reflect.DeepEqual(told(document(t, someDocument)), first) {
		t.Error("something else is told")
	}
}

// TestHandedNodes is that what becomes of the list that a document was made of changes no point.
func TestHandedNodes(t *testing.T) {
	l := document(t, someDocument).Nodes()
	d := documentOf(t, l)
	first := told(d)
	for n := range l {
		for i := range l[n].Attrs {
			l[n].Attrs[i].Value = "spoilt"
		}
		for i := range l[n].Decls {
			l[n].Decls[i].Prefix = "spoilt"
		}
		l[n] = api.Node{Kind: api.Text, Text: "spoilt"}
	}
	if !reflect.DeepEqual(told(d), first) {
		t.Error("something else is told")
	}
}
