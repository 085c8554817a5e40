package nodes

import (
	"math"
	"slices"
	"strconv"
	"strings"
	"testing"

	"apostille/api"
	"apostille/doc"
	"apostille/parse"
	"apostille/point"
)

// document is the document of the bytes s.
func document(t *testing.T, s string) *doc.Doc {
	t.Helper()
	d, e := parse.Parse([]byte(s))
	if e != api.OK {
		t.Fatalf("%.200q: %v", s, e)
	}
	return d
}

// documentOf is the document of the nodes l.
func documentOf(t *testing.T, l []api.Node) *doc.Doc {
	t.Helper()
	d, e := doc.Of(l)
	if e != api.OK {
		t.Fatalf("%.200v: %v", l, e)
	}
	return d
}

// tell writes points as "N", "N:I" of a namespace, "N@I" of an attribute, and others as "N/Part/I".
func tell(l []api.Point) string {
	var all []string
	for _, p := range l {
		n, i := strconv.Itoa(p.N), strconv.Itoa(p.I)
		switch {
		case p.Part == api.Self && p.I == 0:
			all = append(all, n)
		case p.Part == api.Space:
			all = append(all, n+":"+i)
		case p.Part == api.Mark:
			all = append(all, n+"@"+i)
		default:
			all = append(all, n+"/"+strconv.Itoa(p.Part)+"/"+i)
		}
	}
	return strings.Join(all, " ")
}

// number reads one of the numbers that tell writes.
func number(t *testing.T, s string) int {
	t.Helper()
	n, err := strconv.Atoi(s)
	if err != nil {
		t.Fatal(err)
	}
	return n
}

// points reads what tell writes.
func points(t *testing.T, s string) []api.Point {
	t.Helper()
	var l []api.Point
	for _, w := range strings.Fields(s) {
		var p api.Point
		if a, i, ok := strings.Cut(w, ":"); ok {
			p = api.Point{N: number(t, a), Part: api.Space, I: number(t, i)}
		} else if a, i, ok := strings.Cut(w, "@"); ok {
			p = api.Point{N: number(t, a), Part: api.Mark, I: number(t, i)}
		} else if x := strings.Split(w, "/"); len(x) == 3 {
			p = api.Point{N: number(t, x[0]), Part: number(t, x[1]), I: number(t, x[2])}
		} else {
			p = api.Point{N: number(t, w)}
		}
		l = append(l, p)
	}
	if got := tell(l); got != strings.Join(strings.Fields(s), " ") {
		t.Fatalf("%q is read as %q", s, got)
	}
	return l
}

// someNumbers are the least numbers, the greatest, and some between.
var someNumbers = []int{math.MinInt, math.MinInt + 1, math.MinInt32, -2, -1, 0, 1, 2, 3, math.MaxInt32, math.MaxInt - 1, math.MaxInt}

// The chapters' words, worked out anew, one by one and without haste.

// isAhead tells whether a stands ahead of b: by N, then by Part, then by I.
func isAhead(a, b api.Point) bool {
	if a.N != b.N {
		return a.N < b.N
	}
	if a.Part != b.Part {
		return a.Part < b.Part
	}
	return a.I < b.I
}

// hasByWords tells whether p is one of l.
func hasByWords(l []api.Point, p api.Point) bool {
	for _, q := range l {
		if q == p {
			return true
		}
	}
	return false
}

// setByWords is the set of those of l that are asked for: each is put where it belongs, unless it is there.
func setByWords(l []api.Point, isAsked func(api.Point) bool) []api.Point {
	var set []api.Point
	for _, p := range l {
		if !isAsked(p) || hasByWords(set, p) {
			continue
		}
		at := 0
		for at < len(set) && isAhead(set[at], p) {
			at++
		}
		set = slices.Insert(set, at, p)
	}
	return set
}

// isSetByWords tells whether each of l stands ahead of all that are behind it.
func isSetByWords(l []api.Point) bool {
	for i, p := range l {
		for _, q := range l[i+1:] {
			if !isAhead(p, q) {
				return false
			}
		}
	}
	return true
}

// isWithin tells whether the node n is a, or below it.
func isWithin(l []api.Node, n, a int) bool {
	for ; n >= 0; n = l[n].Parent {
		if n == a {
			return true
		}
	}
	return false
}

// treeByWords is what of d's points is of the node n, or of one below it.
func treeByWords(d *doc.Doc, n int, comments bool) []api.Point {
	nodes := d.Nodes()
	var l []api.Point
	for _, p := range point.All(d) {
		isComment := p.Part == api.Self && nodes[p.N].Kind == api.Comment
		if n >= 0 && isWithin(nodes, p.N, n) && (comments || !isComment) {
			l = append(l, p)
		}
	}
	return l
}

// grownByWords is what of d's points is in l, or of a node that is in l, or of one below it.
func grownByWords(d *doc.Doc, l []api.Point) []api.Point {
	nodes := d.Nodes()
	var grown []api.Point
	for _, p := range point.All(d) {
		isIn := hasByWords(l, p)
		for _, q := range l {
			isIn = isIn || q.Part == api.Self && q.I == 0 && q.N >= 0 && isWithin(nodes, p.N, q.N)
		}
		if isIn {
			grown = append(grown, p)
		}
	}
	return grown
}

// same fails if two lists of points aren't the same, or the one that was answered is no set.
func same(t *testing.T, what string, got, want []api.Point) {
	t.Helper()
	if !slices.Equal(got, want) {
		t.Fatalf("%s: %.999s, not %.999s", what, tell(got), tell(want))
	}
	if len(got) < 500 && !isSetByWords(got) {
		t.Fatalf("%s: %s is no set", what, tell(got))
	}
}

// checkList holds all that is said of one list against the words.
func checkList(t *testing.T, l []api.Point) {
	t.Helper()
	all := func(api.Point) bool { return true }
	same(t, "Of "+tell(l), Of(l...), setByWords(l, all))
	if Is(l) != isSetByWords(l) {
		t.Fatalf("Is %s: %v", tell(l), Is(l))
	}
	if !Is(Of(l...)) {
		t.Fatalf("Of %s is no set", tell(l))
	}
	for _, p := range l {
		if !Has(l, p) || !Has(Of(l...), p) {
			t.Fatalf("%s: not %v", tell(l), p)
		}
	}
}

// checkLists holds all that is said of two lists against the words.
func checkLists(t *testing.T, a, b []api.Point) {
	t.Helper()
	what := tell(a) + " and " + tell(b)
	isInB := func(p api.Point) bool { return hasByWords(b, p) }
	isNotInB := func(p api.Point) bool { return !isInB(p) }
	both := slices.Concat(a, b)
	same(t, "Union of "+what, Union(a, b), setByWords(both, func(api.Point) bool { return true }))
	same(t, "Meet of "+what, Meet(a, b), setByWords(a, isInB))
	same(t, "Without of "+what, Without(a, b), setByWords(a, isNotInB))
}

// checkTrees holds the trees of all nodes of d, and of numbers that are none, against the words.
func checkTrees(t *testing.T, d *doc.Doc) {
	t.Helper()
	numbers := slices.Clone(someNumbers)
	for n := -3; n < d.Len()+3; n++ {
		numbers = append(numbers, n)
	}
	for _, n := range numbers {
		for _, comments := range []bool{false, true} {
			what := "Tree of " + strconv.Itoa(n) + " " + strconv.FormatBool(comments)
			var want []api.Point
			if n < d.Len() {
				want = treeByWords(d, n, comments)
			}
			same(t, what, Tree(d, n, comments), want)
		}
	}
}

// checkGrow holds Grow of l, and of l the other way round and twice, against the words.
func checkGrow(t *testing.T, d *doc.Doc, l []api.Point) {
	t.Helper()
	want := grownByWords(d, l)
	same(t, "Grow of "+tell(l), Grow(d, l), want)
	other := slices.Concat(l, l)
	slices.Reverse(other)
	same(t, "Grow of "+tell(other), Grow(d, other), want)
}
