package space

import (
	"bytes"
	"math/rand"
	"reflect"
	"slices"
	"strconv"
	"strings"
	"testing"

	"apostille/api"
)

// orderByWords tells whether a stands ahead of b by the chapter's words, byte by byte.
func orderByWords(a, b api.Decl) bool {
	if c := bytes.Compare([]byte(a.Prefix), []byte(b.Prefix)); c != 0 {
		return c < 0
	}
	return bytes.Compare([]byte(a.URI), []byte(b.URI)) < 0
}

// checkSorted fails if Sorted(l) isn't l in its order.
func checkSorted(t *testing.T, l []api.Decl) {
	t.Helper()
	said := slices.Clone(l)
	got := Sorted(l...)
	if !slices.Equal(l, said) {
		t.Fatalf("%.999v has become %.999v", said, l)
	}
	if len(got) != len(l) {
		t.Fatalf("%d of %d", len(got), len(l))
	}
	left := map[api.Decl]int{}
	for i, x := range got {
		left[x]++
		left[l[i]]--
		if i > 0 && orderByWords(x, got[i-1]) {
			t.Fatalf("%v behind %v", x, got[i-1])
		}
	}
	for x, n := range left {
		if n != 0 {
			t.Fatalf("%v is there %d times more", x, n)
		}
	}
}

// sorts fails if Sorted of l, in each order of it, isn't as want tells.
func sorts(t *testing.T, want string, l ...api.Decl) {
	t.Helper()
	var all func(ahead, rest []api.Decl)
	all = func(ahead, rest []api.Decl) {
		if len(rest) == 0 {
			checkSorted(t, ahead)
			if got := tell(Sorted(ahead...)); got != want {
				t.Errorf("%v: %s, not %s", ahead, got, want)
			}
		}
		for i := range rest {
			all(append(slices.Clip(ahead), rest[i]), slices.Delete(slices.Clone(rest), i, i+1))
		}
	}
	all(nil, l)
}

// pairs are declarations, prefix and URI by turns.
func pairs(l ...string) []api.Decl {
	var all []api.Decl
	for i := 0; i < len(l); i += 2 {
		all = append(all, api.Decl{Prefix: l[i], URI: l[i+1]})
	}
	return all
}

func TestSortedFew(t *testing.T) {
	for _, l := range [][]api.Decl{nil, {}, make([]api.Decl, 0, 5)} {
		if got := Sorted(l...); len(got) != 0 {
			t.Error(got)
		}
	}
	if got := Sorted(); len(got) != 0 {
		t.Error(got)
	}
	for _, x := range pairs("", "", "p", "", "", "u", "p", "u", "xml", xmlSpace, "\xff", "\x00") {
		if got := Sorted(x); len(got) != 1 || got[0] != x {
			t.Error(x, got)
		}
	}
}

// TestSortedOrders has few declarations in each order.
func TestSortedOrders(t *testing.T) {
	sorts(t, "a=u b=u", pairs("a", "u", "b", "u")...)
	sorts(t, "a=v b=u", pairs("a", "v", "b", "u")...)
	sorts(t, "a=1 a=2 a=3 b=", pairs("a", "1", "a", "2", "a", "3", "b", "")...)
	sorts(t, "=1 =2 a=0", pairs("", "1", "", "2", "a", "0")...)
	sorts(t, "= =a a= a=a", pairs("", "", "", "a", "a", "", "a", "a")...)
	// None is left out, however often it is there.
	sorts(t, "a=u a=u b=v b=v b=v", pairs("a", "u", "a", "u", "b", "v", "b", "v", "b", "v")...)
	sorts(t, "= =", pairs("", "", "", "")...)
	sorts(t, "xml=XML xml=XML xml=u xmlns=v", pairs("xml", xmlSpace, "xml", xmlSpace, "xml", "u", "xmlns", "v")...)
	// One prefix begins another, and one URI another: prefix and URI are apart.
	sorts(t, "a=z ab=y abc=x b=w", pairs("a", "z", "ab", "y", "abc", "x", "b", "w")...)
	sorts(t, "a=bc a=c ab= ab=c abc=", pairs("a", "bc", "ab", "c", "abc", "", "ab", "", "a", "c")...)
	sorts(t, "p=u p=u/ p=u/v p=ua p=v", pairs("p", "u", "p", "u/", "p", "u/v", "p", "ua", "p", "v")...)
	// Upper ahead of lower letters, numbers by their bytes, shorter ones not ahead of all.
	sorts(t, "B=1 _=1 a=1 aa=1 b=1", pairs("a", "1", "B", "1", "b", "1", "aa", "1", "_", "1")...)
	sorts(t, "p=U p=_ p=u", pairs("p", "u", "p", "U", "p", "_")...)
	sorts(t, "p10=2 p2=10 p2=9", pairs("p2", "9", "p2", "10", "p10", "2")...)
	// Beyond ASCII: by bytes, not by pairs of them.
	sorts(t, "z=1 \u00e9=1 \u6587=1 \ufffd=1 \U00010000=1", pairs("z", "1", "\u00e9", "1", "\u6587", "1", "\ufffd", "1", "\U00010000", "1")...)
	sorts(t, "p=z p=\u00e9 p=\u6587 p=\ufffd p=\U00010000", pairs("p", "z", "p", "\u00e9", "p", "\u6587", "p", "\ufffd", "p", "\U00010000")...)
	// Texts that are no prefixes, and no characters' bytes.
	sorts(t, "=\xff \x00= \x00\x00= \x80= \xff= \xff\x00=", pairs("\xff", "", "", "\xff", "\x00", "", "\x80", "", "\x00\x00", "", "\xff\x00", "")...)
	sorts(t, " p=u :=u p=u p =u", pairs("p", "u", " p", "u", "p ", "u", ":", "u")...)
}

// TestSortedShort goes through all short lists of some declarations.
func TestSortedShort(t *testing.T) {
	some := pairs("", "", "", "b", "a", "", "a", "b", "ab", "", "b", "a", "xml", xmlSpace)
	var grow func(l []api.Decl)
	grow = func(l []api.Decl) {
		checkSorted(t, l)
		if len(l) == 5 {
			return
		}
		for _, x := range some {
			grow(append(slices.Clip(l), x))
		}
	}
	grow(nil)
}

// TestSortedMany has long lists in several orders.
func TestSortedMany(t *testing.T) {
	random := rand.New(rand.NewSource(9))
	for _, n := range []int{11, 12, 13, 20, 49, 50, 51, 64, 100, 1000, 4097, 50000} {
		var l, two, same, noise []api.Decl
		for i := range n {
			l = append(l, api.Decl{Prefix: "p" + strconv.Itoa(i/3), URI: "u" + strconv.Itoa(n-i)})
			two = append(two, api.Decl{Prefix: strings.Repeat("p", i%2), URI: strconv.Itoa(i)})
			same = append(same, api.Decl{Prefix: "p", URI: "u"})
			noise = append(noise, api.Decl{Prefix: letters(random), URI: letters(random)})
		}
		for _, x := range [][]api.Decl{l, two, same, noise} {
			checkSorted(t, x)
			checkSorted(t, Sorted(x...))
			falling := Sorted(x...)
			slices.Reverse(falling)
			checkSorted(t, falling)
		}
	}
}

// letters is a short random text of few bytes.
func letters(random *rand.Rand) string {
	b := make([]byte, random.Intn(4))
	for i := range b {
		b[i] = "ab\x00\xff"[random.Intn(4)]
	}
	return string(b)
}

func TestSortedLong(t *testing.T) {
	long := strings.Repeat("x", 1<<20)
	l := pairs(long+"b", "", long+"a", "", "y", "", long, long+"b", long, long, long, long+"a")
	checkSorted(t, l)
	if got := Sorted(l...); !reflect.DeepEqual(got, pairs(long, long, long, long+"a", long, long+"b", long+"a", "", long+"b", "", "y", "")) {
		t.Error("long texts stand in another order")
	}
}
