package nodes

import (
	"math"
	"slices"
	"testing"

	"apostille/api"
)

func TestExample(t *testing.T) {
	one, two := api.Point{N: 1}, api.Point{N: 2}
	want := []api.Point{one, two}
	if got := Union([]api.Point{two, one}, []api.Point{one}); !slices.Equal(got, want) {
		t.Error(got)
	}
	if got := Union([]api.Point{two, one, one}, nil); !slices.Equal(got, want) {
		t.Error(got)
	}
}

// TestOf has no points, one, points in any order, and points that are the same twice and more often.
func TestOf(t *testing.T) {
	for s, want := range map[string]string{
		"":                            "",
		"0":                           "0",
		"7@3":                         "7@3",
		"1 2":                         "1 2",
		"2 1":                         "1 2",
		"1 1":                         "1",
		"2 1 1":                       "1 2",
		"1 2 1":                       "1 2",
		"3 3 3 3":                     "3",
		"3 1 2 3 1 2 3":               "1 2 3",
		"10 9 11":                     "9 10 11",
		"1@0 1:0 1":                   "1 1:0 1@0",
		"2 1@1 1@0 1:1 1:0 1 0":       "0 1 1:0 1:1 1@0 1@1 2",
		"1@1 1:2 1@1 1 1:2 0@5":       "0@5 1 1:2 1@1",
		"1@10 1@9 1:10 1:9":           "1:9 1:10 1@9 1@10",
		"-1 0 -2@9 -2/9/0 -2 5/-1/3":  "-2 -2@9 -2/9/0 -1 0 5/-1/3",
		"1/0/1 1/0/-1 1 1/-1/7 1/3/0": "1/-1/7 1/0/-1 1 1/0/1 1/3/0",
	} {
		l := points(t, s)
		if got := tell(Of(l...)); got != want {
			t.Errorf("%s: %s, not %s", s, got, want)
		}
		checkList(t, l)
	}
}

// TestOfByOne hands points over one by one, and a nil list and one of no elements.
func TestOfByOne(t *testing.T) {
	a, b, c := api.Point{N: 1}, api.Point{N: 1, Part: api.Space}, api.Point{N: 1, Part: api.Mark}
	for _, l := range [][]api.Point{Of(a, b, c), Of(c, b, a), Of(b, c, b, a, b), Of([]api.Point{c, a, c, b}...)} {
		if !slices.Equal(l, []api.Point{a, b, c}) {
			t.Error(tell(l))
		}
	}
	if l := Of(b); !slices.Equal(l, []api.Point{b}) {
		t.Error(tell(l))
	}
	for _, l := range [][]api.Point{Of(), Of(nil...), Of([]api.Point{}...)} {
		if len(l) != 0 {
			t.Error(tell(l))
		}
	}
}

// TestIs has lists that rise, that fall, that hold a point twice, of none and of one.
func TestIs(t *testing.T) {
	for s, want := range map[string]bool{
		"": true, "0": true, "5@3": true, "-1/-1/-1": true,
		"0 1": true, "1 0": false, "1 1": false, "0 0": false,
		"0 1 2": true, "0 2 1": false, "1 0 2": false, "2 1 0": false, "0 1 1": false, "0 0 1": false, "0 1 0": false,
		"1 1:0 1@0 2": true, "1 1@0 1:0": false, "1:0 1": false, "1@0 1": false,
		"1:0 1:1 1:2": true, "1:0 1:2 1:1": false, "1@0 1@0": false, "1@1 1@0": false,
		"1:9 1@0 2": true, "1@9 2:0": true, "2 1@9": false, "2:0 1@9": false,
		"9 10 11": true, "1:9 1:10": true, "1:10 1:9": false,
		"-2 -1 0": true, "-1 -2": false, "0 -1": false, "1/-1/0 1": true, "1 1/-1/0": false, "1 1/3/0": true,
		"1/0/-1 1 1/0/1": true, "1/0/1 1": false, "1 1/0/-1": false,
		// The last ones and the first ones alone don't rise.
		"0 1 2 3 4 5 5": false, "0 1 2 3 4 6 5": false, "0 0 1 2 3 4": false, "1 0 2 3 4 5": false, "0 1 2 2 3 4": false,
	} {
		l := points(t, s)
		if Is(l) != want {
			t.Errorf("%s: %v", s, !want)
		}
		checkList(t, l)
	}
	if !Is(nil) || !Is([]api.Point{}) {
		t.Error("no points are a set")
	}
}

// TestHas has each point of a list, and what lies between, before and behind them, in sets and in other lists.
func TestHas(t *testing.T) {
	between := points(t, "-1 0 1 1:0 1:1 1:2 1@0 1@1 2 2@0 3 3:0 4 4@0 5 9 1/0/1 1/0/-1 1/-1/0 1/3/0 3/0/1")
	for _, s := range []string{
		"", "1", "1:1", "1 3", "1:0 1:2 2@0 4", "0 1@0 1@1 4@0", "0 1 2 3 4 5",
		"4 1 2", "3 1", "1:2 1:0", "1 1", "5 1@0 0 1 1@0", "4 4 4", "9 5 4 3 2 1 0",
	} {
		l := points(t, s)
		for _, p := range between {
			if want := hasByWords(l, p); Has(l, p) != want {
				t.Errorf("%s, %v: %v", s, p, !want)
			}
		}
		for _, p := range l {
			if !Has(l, p) {
				t.Errorf("%s: not %v", s, p)
			}
		}
	}
	if Has(nil, api.Point{}) || Has([]api.Point{}, api.Point{}) {
		t.Error("no points have none")
	}
}

// TestHasBehind is that what stands behind a list, in its spare room, isn't in it.
func TestHasBehind(t *testing.T) {
	l := points(t, "1 2 3 4")
	if Has(l[:2], api.Point{N: 3}) || Has(l[:0], api.Point{N: 1}) || Has(l[1:], api.Point{N: 1}) || !Has(l[1:3], api.Point{N: 3}) {
		t.Error("what stands beside a list")
	}
}

// TestTwoLists has lists that are sets and such as aren't: apart, the same, one of them within the other, none.
func TestTwoLists(t *testing.T) {
	for _, x := range []struct{ a, b, union, meet, without, back string }{
		{},
		{a: "1", union: "1", without: "1"},
		{a: "3 1 3", union: "1 3", without: "1 3"},
		{a: "1", b: "1", union: "1", meet: "1"},
		{a: "1", b: "2", union: "1 2", without: "1", back: "2"},
		{a: "2", b: "1", union: "1 2", without: "2", back: "1"},
		{a: "1 2 3", b: "1 2 3", union: "1 2 3", meet: "1 2 3"},
		{a: "3 2 1", b: "1 2 3", union: "1 2 3", meet: "1 2 3"},
		{a: "3 1 3 2", b: "2 2 1 3 1", union: "1 2 3", meet: "1 2 3"},
		{a: "1 2", b: "3 4", union: "1 2 3 4", without: "1 2", back: "3 4"},
		{a: "1 3", b: "2 4", union: "1 2 3 4", without: "1 3", back: "2 4"},
		{a: "2 3", b: "1 4", union: "1 2 3 4", without: "2 3", back: "1 4"},
		{a: "1 2 3 4", b: "2 3", union: "1 2 3 4", meet: "2 3", without: "1 4"},
		{a: "1 2 3 4", b: "1 4", union: "1 2 3 4", meet: "1 4", without: "2 3"},
		{a: "1 2 3", b: "2 3 4", union: "1 2 3 4", meet: "2 3", without: "1", back: "4"},
		{a: "3 1 1", b: "2 3", union: "1 2 3", meet: "3", without: "1", back: "2"},
		{a: "4 4 1", b: "4 9 4", union: "1 4 9", meet: "4", without: "1", back: "9"},
		{a: "5 5 5", b: "1 1", union: "1 5", without: "5", back: "1"},
		{a: "1 1:0 1@0 2", b: "1@0 1", union: "1 1:0 1@0 2", meet: "1 1@0", without: "1:0 2"},
		{a: "1:0 1:1", b: "1@0 1@1", union: "1:0 1:1 1@0 1@1", without: "1:0 1:1", back: "1@0 1@1"},
		{a: "1@1 1:1", b: "1@1 2:1", union: "1:1 1@1 2:1", meet: "1@1", without: "1:1", back: "2:1"},
		{a: "1/0/1", b: "1 1/3/1", union: "1 1/0/1 1/3/1", without: "1/0/1", back: "1 1/3/1"},
		{a: "10 9", b: "11 9", union: "9 10 11", meet: "9", without: "10", back: "11"},
		{a: "-1 0", b: "0 -2", union: "-2 -1 0", meet: "0", without: "-1", back: "-2"},
	} {
		a, b := points(t, x.a), points(t, x.b)
		same(t, "Union of "+x.a+" and "+x.b, Union(a, b), points(t, x.union))
		same(t, "Union of "+x.b+" and "+x.a, Union(b, a), points(t, x.union))
		same(t, "Meet of "+x.a+" and "+x.b, Meet(a, b), points(t, x.meet))
		same(t, "Meet of "+x.b+" and "+x.a, Meet(b, a), points(t, x.meet))
		same(t, "Without of "+x.a+" and "+x.b, Without(a, b), points(t, x.without))
		same(t, "Without of "+x.b+" and "+x.a, Without(b, a), points(t, x.back))
		checkLists(t, a, b)
	}
}

// TestNoPoints has lists of no elements, nil and empty, with spare room and without.
func TestNoPoints(t *testing.T) {
	some := points(t, "3 1 1 2@0")
	want := points(t, "1 2@0 3")
	for _, none := range [][]api.Point{nil, {}, some[:0], make([]api.Point, 0, 9)} {
		for _, other := range [][]api.Point{nil, {}} {
			for _, l := range [][]api.Point{Union(none, other), Meet(none, other), Without(none, other), Union(other, none), Meet(other, none)} {
				if len(l) != 0 {
					t.Error(tell(l))
				}
			}
		}
		same(t, "Union", Union(none, some), want)
		same(t, "Union", Union(some, none), want)
		same(t, "Meet", Meet(none, some), nil)
		same(t, "Meet", Meet(some, none), nil)
		same(t, "Without", Without(none, some), nil)
		same(t, "Without", Without(some, none), want)
	}
}

// TestFarPoints has the least numbers and the greatest, as N, as Part and as I.
func TestFarPoints(t *testing.T) {
	var all []api.Point
	for _, n := range someNumbers {
		for _, part := range someNumbers {
			for _, i := range []int{math.MinInt, -1, 0, 1, math.MaxInt} {
				all = append(all, api.Point{N: n, Part: part, I: i}, api.Point{N: part, Part: i, I: n})
			}
		}
	}
	checkList(t, all)
	set := Of(all...)
	for i, p := range set {
		if !Is(set[:i]) || !Has(set, p) || Has(set[:i], p) || Has(set[i+1:], p) || !Is(set[i:]) {
			t.Fatal(p)
		}
		// Each two of a set that stand side by side, and some that stand apart.
		for _, k := range []int{1, 2, 12, 60, 200} {
			if i+k < len(set) {
				checkLists(t, []api.Point{set[i+k], p}, []api.Point{p})
				checkLists(t, []api.Point{p}, []api.Point{set[i+k], p})
				checkList(t, []api.Point{set[i+k], p})
				checkList(t, []api.Point{p, set[i+k]})
			}
		}
	}
	// Of the points every other one, and those in a row, ahead and behind.
	var odd []api.Point
	for i := 1; i < len(all); i += 2 {
		odd = append(odd, all[i])
	}
	for _, l := range [][]api.Point{odd, all[:len(all)/2], all[len(all)/3:]} {
		checkLists(t, all, l)
		checkLists(t, l, all)
		checkLists(t, set, l)
	}
}

// someLists are all lists of at most so many of the points l.
func someLists(l []api.Point, most int) [][]api.Point {
	lists := [][]api.Point{nil}
	from := 0
	for range most {
		to := len(lists)
		for _, ahead := range lists[from:to] {
			for _, p := range l {
				lists = append(lists, append(slices.Clone(ahead), p))
			}
		}
		from = to
	}
	return lists
}

// TestSmallLists goes through all lists of few points, and all pairs of them.
func TestSmallLists(t *testing.T) {
	for _, x := range []struct {
		points      string
		one, two    int
		least, most int
	}{
		{"1 1:1 1@0 2", 6, 3, 5000, 6000},
		{"3 1 2", 7, 4, 3000, 4000},
		{"-1 0/-1/5 0", 7, 4, 3000, 4000},
		{"5@1 5@0", 10, 6, 2000, 3000},
	} {
		l := points(t, x.points)
		one := someLists(l, x.one)
		if len(one) < x.least || len(one) > x.most {
			t.Fatal(len(one))
		}
		for _, a := range one {
			checkList(t, a)
		}
		two := someLists(l, x.two)
		for _, a := range two {
			for _, b := range two {
				checkLists(t, a, b)
			}
		}
	}
}

// shuffled are count points of at most most N, in no order, some of them twice and more often.
func shuffled(count, most, seed int) []api.Point {
	var l []api.Point
	x := uint32(seed)
	for range count {
		x = x*1664525 + 1013904223
		y := int(x >> 8)
		l = append(l, api.Point{N: y % most, Part: y / most % 3, I: y / most / 3 % 4})
	}
	return l
}

// TestManyPoints has long lists in no order, sorted ones, and such as rise but at one place.
func TestManyPoints(t *testing.T) {
	for _, x := range []struct{ count, most int }{{10, 5}, {100, 20}, {500, 50}, {500, 4000}, {800, 80}} {
		a, b := shuffled(x.count, x.most, 1), shuffled(x.count, x.most, 2)
		checkLists(t, a, b)
		checkLists(t, a, a)
		checkLists(t, Of(a...), Of(b...))
		checkLists(t, b[:x.count/3], a)
		set := Of(a...)
		checkList(t, a)
		checkList(t, set)
		for i := 0; i+1 < len(set); i += 1 + len(set)/20 {
			set[i], set[i+1] = set[i+1], set[i]
			checkList(t, set)
			set[i] = set[i+1]
			checkList(t, set)
			set = Of(a...)
		}
		slices.Reverse(set)
		checkList(t, set)
		checkLists(t, set, b)
	}
}

// TestVeryMany has as many points as there may be in a greater document, which are only looked at one by one.
func TestVeryMany(t *testing.T) {
	var l []api.Point
	for n := range api.MaxNodes {
		for i := range 65 {
			l = append(l, api.Point{N: n, Part: api.Space, I: i}, api.Point{N: n, Part: api.Mark, I: i})
		}
	}
	set := Of(l...)
	if len(set) != len(l) || !Is(set) || Is(l) {
		t.Fatal(len(set), len(l))
	}
	slices.Reverse(l)
	var odd, even []api.Point
	for i, p := range l {
		if i%2 == 0 {
			even = append(even, p)
		} else {
			odd = append(odd, p)
		}
	}
	if !slices.Equal(Union(odd, even), set) || len(Meet(odd, even)) != 0 || !slices.Equal(Without(set, odd), Of(even...)) || !slices.Equal(Meet(l, set), set) {
		t.Error("very many points")
	}
}
