package nodes

import (
	"reflect"
	"slices"
	"testing"

	"apostille/api"
	"apostille/doc"
)

// stranger is a point that stands in no list, but where one is spoilt.
var stranger = api.Point{N: 77, Part: 77, I: 77}

// spoil fills a list with something else, its spare room too.
func spoil(l []api.Point) {
	l = l[:cap(l)]
	for i := range l {
		l[i] = stranger
	}
}

// answers are all that is answered of d and of two lists.
func answers(d *doc.Doc, a, b []api.Point) [][]api.Point {
	return [][]api.Point{
		Of(a...), Of(b...), Union(a, b), Union(b, a), Meet(a, b), Meet(b, a), Without(a, b), Without(b, a),
		Grow(d, a), Grow(d, b), Tree(d, 0, true), Tree(d, 3, false), Tree(d, 6, true), Tree(d, 99, true),
	}
}

// copied are lists like those of l, in memory of their own.
func copied(l [][]api.Point) [][]api.Point {
	var c [][]api.Point
	for _, x := range l {
		c = append(c, slices.Clone(x))
	}
	return c
}

// sameLists tells whether all lists are the same, one by one.
func sameLists(a, b [][]api.Point) bool { return slices.EqualFunc(a, b, slices.Equal[[]api.Point]) }

// pairs are two lists each: sets and such as aren't, of the document's points and of others.
var pairs = [][2]string{
	{"", ""}, {"", "3 1"}, {"1 3 6:1", ""}, {"0", "0"}, {"1 2 3", "1 2 3"}, {"3 3 1 2 1", "2 2 5 1"},
	{"6 10@0 3:1 99", "10@0 3@0 -1 6"}, {"1 2 3 4 5 6 7 8 9", "2 4 6 8 8 8"}, {"9 8 7 6 5", "4 5 6"}, {"3", "10 4"},
}

// lists reads a pair, with spare room behind each list.
func lists(t *testing.T, pair [2]string) ([]api.Point, []api.Point) {
	t.Helper()
	var l [2][]api.Point
	for i, s := range pair {
		x := append(points(t, s), points(t, "5 1 4 1 3@0")...)
		l[i] = x[:len(x)-5]
	}
	return l[0], l[1]
}

// TestHandedIn is R3: lists that are handed in stay as they are, their spare room too, also if they share memory.
func TestHandedIn(t *testing.T) {
	d := document(t, someDocument)
	nodes := d.Nodes()
	check := func(a, b []api.Point) {
		t.Helper()
		wholeA, wholeB := slices.Clone(a[:cap(a)]), slices.Clone(b[:cap(b)])
		answers(d, a, b)
		Is(a)
		Has(a, stranger)
		if !slices.Equal(a[:cap(a)], wholeA) || !slices.Equal(b[:cap(b)], wholeB) {
			t.Errorf("%s and %s, of %s and %s", tell(a[:cap(a)]), tell(b[:cap(b)]), tell(wholeA), tell(wholeB))
		}
	}
	for _, pair := range pairs {
		a, b := lists(t, pair)
		check(a, b)
		check(a, a)
		if len(a) > 1 {
			check(a[1:], a[:len(a)-1])
			check(a[:1], a[1:])
			check(a[:0], a[:2])
			check(a[:2], a[:0])
		}
	}
	if !reflect.DeepEqual(d.Nodes(), nodes) {
		t.Error("the document is changed")
	}
}

// TestStays is R3 and R2: what is answered stays, whatever becomes of what was handed in, and of other answers.
func TestStays(t *testing.T) {
	d := document(t, someDocument)
	nodes := d.Nodes()
	for _, pair := range pairs {
		a, b := lists(t, pair)
		want := copied(answers(d, a, b))
		got := answers(d, a, b)
		spoil(a)
		spoil(b)
		if !sameLists(got, want) {
			t.Errorf("%v: what is answered hangs on what was handed in", pair)
		}
		a, b = lists(t, pair)
		for i := range got {
			got = answers(d, a, b)
			spoil(got[i])
			for k, l := range got {
				if k != i && !slices.Equal(l, want[k]) {
					t.Errorf("%v: %d changes %d", pair, i, k)
				}
			}
			if again := answers(d, a, b); !sameLists(again, want) {
				t.Errorf("%v: something else is told behind %d", pair, i)
			}
		}
	}
	if !reflect.DeepEqual(d.Nodes(), nodes) {
		t.Error("the document is changed")
	}
}

// TestSpareRoom is that what is written behind an answer, in its room, changes nothing that was handed in.
func TestSpareRoom(t *testing.T) {
	d := document(t, someDocument)
	for _, pair := range pairs {
		a, b := lists(t, pair)
		wholeA, wholeB := slices.Clone(a[:cap(a)]), slices.Clone(b[:cap(b)])
		for _, l := range answers(d, a, b) {
			_ = append(l, stranger, stranger)
			spoil(l)
		}
		if !slices.Equal(a[:cap(a)], wholeA) || !slices.Equal(b[:cap(b)], wholeB) {
			t.Errorf("%v: %s and %s", pair, tell(a[:cap(a)]), tell(b[:cap(b)]))
		}
	}
}

// TestOfAnswers is that an answer may be handed in again.
func TestOfAnswers(t *testing.T) {
	d := document(t, someDocument)
	for _, pair := range pairs {
		a, b := lists(t, pair)
		for _, x := range answers(d, a, b) {
			before := slices.Clone(x)
			same(t, "Of", Of(x...), before)
			same(t, "Union", Union(x, x), before)
			same(t, "Meet", Meet(x, x), before)
			same(t, "Without", Without(x, x), nil)
			same(t, "Grow", Grow(d, Grow(d, x)), Grow(d, x))
			for _, y := range answers(d, b, a) {
				checkLists(t, x, y)
				checkGrow(t, d, Union(x, y))
			}
			same(t, "the list", x, before)
		}
	}
}
