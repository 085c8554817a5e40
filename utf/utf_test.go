package utf

import (
	"bytes"
	"math"
	"slices"
	"testing"
)

// encode is the chapter's words, written out without the library, to hold the package against.
func encode(r rune) []byte {
	low := func(shift uint) byte { return byte(0x80 | r>>shift&0x3F) }
	switch {
	case r <= 0x7F:
		return []byte{byte(r)}
	case r <= 0x7FF:
		return []byte{byte(0xC0 | r>>6), low(0)}
	case r <= 0xFFFF:
		return []byte{byte(0xE0 | r>>12), low(6), low(0)}
	}
	return []byte{byte(0xF0 | r>>18), low(12), low(6), low(0)}
}

func character(r rune) bool {
	return 0 <= r && r <= 0x10FFFF && !(0xD800 <= r && r <= 0xDFFF)
}

// edges are the numbers at which an answer may change.
func edges() []rune {
	var l []rune
	for _, r := range []rune{0, 9, 0xA, 0xD, 0x20, 0x7F, 0x80, 0x7FF, 0x800, 0xD7FF, 0xD800, 0xDBFF, 0xDC00, 0xDFFF, 0xE000, 0xFFFD, 0xFFFE, 0xFFFF, 0x10000, 0x1F600, 0x10FFFF, 0x110000, 0x1FFFFF} {
		l = append(l, r-1, r, r+1)
	}
	return append(l, math.MinInt32, math.MinInt32+0x41, -0x41, math.MaxInt32)
}

func TestEachNumber(t *testing.T) {
	check := func(r rune) {
		b, ok := Bytes(r)
		if ok != character(r) {
			t.Fatalf("Bytes(%X): %v", r, ok)
		}
		if !ok {
			if len(b) != 0 {
				t.Fatalf("Bytes(%X): %X beside false", r, b)
			}
			return
		}
		if !bytes.Equal(b, encode(r)) {
			t.Fatalf("Bytes(%X): %X", r, b)
		}
		l, ok := Chars(b)
		if !ok || !slices.Equal(l, []rune{r}) || !Valid(b) {
			t.Fatalf("Chars(%X): %X, %v", b, l, ok)
		}
		if Text(b) != Xml(r) {
			t.Fatalf("Text(%X): %v", b, Text(b))
		}
	}
	for r := rune(-0x100); r <= 0x120000; r++ {
		check(r)
	}
	for _, r := range edges() {
		check(r)
	}
}

func TestKnownBytes(t *testing.T) {
	for _, c := range []struct {
		r rune
		b string
	}{
		{0, "\x00"}, {'a', "a"}, {0x7F, "\x7f"}, {0x80, "\xc2\x80"}, {0xE9, "\xc3\xa9"}, {0x7FF, "\xdf\xbf"},
		{0x800, "\xe0\xa0\x80"}, {0x20AC, "\xe2\x82\xac"}, {0xD7FF, "\xed\x9f\xbf"}, {0xE000, "\xee\x80\x80"},
		{0xFFFD, "\xef\xbf\xbd"}, {0xFFFE, "\xef\xbf\xbe"}, {0xFFFF, "\xef\xbf\xbf"},
		{0x10000, "\xf0\x90\x80\x80"}, {0x1F600, "\xf0\x9f\x98\x80"}, {0x10FFFF, "\xf4\x8f\xbf\xbf"},
	} {
		if b, ok := Bytes(c.r); !ok || string(b) != c.b {
			t.Errorf("Bytes(%X): %X, %v", c.r, b, ok)
		}
		if l, ok := Chars([]byte(c.b)); !ok || !slices.Equal(l, []rune{c.r}) {
			t.Errorf("Chars(%X): %X, %v", c.b, l, ok)
		}
	}
}

func TestSeveral(t *testing.T) {
	var l []rune
	var want []byte
	for _, r := range edges() {
		if character(r) {
			l, want = append(l, r), append(want, encode(r)...)
		}
	}
	b, ok := Bytes(l...)
	if !ok || !bytes.Equal(b, want) {
		t.Errorf("Bytes: %X, %v", b, ok)
	}
	back, ok := Chars(want)
	if !ok || !slices.Equal(back, l) || !Valid(want) {
		t.Errorf("Chars: %X, %v", back, ok)
	}
}

func TestNoCharacterAmongOthers(t *testing.T) {
	for _, r := range edges() {
		if character(r) {
			continue
		}
		for _, l := range [][]rune{{r}, {r, 'a'}, {'a', r}, {0x20AC, r, 0x1F600}} {
			if b, ok := Bytes(l...); ok || len(b) != 0 {
				t.Errorf("Bytes(%X): %X, %v", l, b, ok)
			}
		}
	}
}

func TestNothing(t *testing.T) {
	for _, b := range [][]byte{nil, {}} {
		if l, ok := Chars(b); !ok || len(l) != 0 || !Valid(b) || !Text(b) {
			t.Error("no bytes")
		}
	}
	if b, ok := Bytes(); !ok || len(b) != 0 {
		t.Error(b, ok)
	}
	if b, ok := Bytes([]rune{}...); !ok || len(b) != 0 {
		t.Error(b, ok)
	}
}

func TestWrongBytes(t *testing.T) {
	for _, s := range []string{
		// Lone bytes.
		"\x80", "\xbf", "\xfe", "\xff", "\xf8", "\xf5",
		// Cut characters.
		"\xc3", "\xe2", "\xe2\x82", "\xf0", "\xf0\x9f", "\xf0\x9f\x98",
		// A further byte behind a whole one.
		"\xc3\xa9\xa9", "\xe2\x82\xac\x80", "\xf0\x9f\x98\x80\x80",
		// Longer than the character's own bytes.
		"\xc0\x80", "\xc1\xbf", "\xe0\x80\x80", "\xe0\x9f\xbf", "\xf0\x80\x80\x80", "\xf0\x8f\xbf\xbf",
		"\xf8\x88\x80\x80\x80", "\xfc\x84\x80\x80\x80\x80",
		// From D800 to DFFF, and pairs of these.
		"\xed\xa0\x80", "\xed\xaf\xbf", "\xed\xb0\x80", "\xed\xbf\xbf", "\xed\xa0\x80\xed\xb0\x80",
		// Beyond 10FFFF.
		"\xf4\x90\x80\x80", "\xf7\xbf\xbf\xbf",
		// No second byte where one must be.
		"\xc3a", "\xe2\x82a", "\xe2a\xac", "\xf0\x9f\x98a", "\xc3\xc3\xa9",
	} {
		for _, b := range []string{s, "a" + s, s + "a", "\xef\xbf\xbd" + s, s + "\xe2\x82\xac"} {
			if l, ok := Chars([]byte(b)); ok || len(l) != 0 {
				t.Errorf("Chars(%X): %X, %v", b, l, ok)
			}
			if Valid([]byte(b)) || Text([]byte(b)) {
				t.Errorf("Valid(%X)", b)
			}
		}
	}
}

// TestShortBytes goes through all rows of up to four bytes out of those at which an answer may change.
func TestShortBytes(t *testing.T) {
	alone := map[string]struct{}{}
	for r := rune(0); r <= 0x10FFFF; r++ {
		if character(r) {
			alone[string(encode(r))] = struct{}{}
		}
	}
	var valid func(s string) bool
	valid = func(s string) bool {
		for n := 1; n <= len(s); n++ {
			if _, ok := alone[s[:n]]; ok {
				return valid(s[n:])
			}
		}
		return s == ""
	}
	few := []byte{0, 0x41, 0x7F, 0x80, 0x8F, 0x90, 0x9F, 0xA0, 0xBF, 0xC0, 0xC1, 0xC2, 0xDF, 0xE0, 0xE1, 0xEC, 0xED, 0xEE, 0xEF, 0xF0, 0xF1, 0xF3, 0xF4, 0xF5, 0xF7, 0xF8, 0xFF}
	var walk func(b []byte)
	walk = func(b []byte) {
		if Valid(b) != valid(string(b)) {
			t.Fatalf("Valid(%X): %v", b, Valid(b))
		}
		if len(b) == 4 {
			return
		}
		for _, c := range few {
			walk(append(b[:len(b):len(b)], c))
		}
	}
	walk(nil)
	for n := range 0x10000 {
		b := []byte{byte(n >> 8), byte(n)}
		if Valid(b) != valid(string(b)) || Valid(b[1:]) != valid(string(b[1:])) {
			t.Fatalf("Valid(%X)", b)
		}
	}
}

func TestXml(t *testing.T) {
	for _, c := range []struct {
		from, to rune
		want     bool
	}{
		{math.MinInt32, math.MinInt32 + 0x100, false}, {-0x100, 8, false}, {9, 0xA, true}, {0xB, 0xC, false}, {0xD, 0xD, true},
		{0xE, 0x1F, false}, {0x20, 0xD7FF, true}, {0xD800, 0xDFFF, false}, {0xE000, 0xFFFD, true}, {0xFFFE, 0xFFFF, false},
		{0x10000, 0x10FFFF, true}, {0x110000, 0x120000, false}, {math.MaxInt32 - 1, math.MaxInt32 - 1, false},
	} {
		for r := c.from; r <= c.to; r++ {
			if Xml(r) != c.want {
				t.Fatalf("Xml(%X): %v", r, Xml(r))
			}
		}
	}
	if Xml(math.MaxInt32) {
		t.Error("the greatest number")
	}
}

func TestText(t *testing.T) {
	for _, c := range []struct {
		b    string
		want bool
	}{
		{"a\t\n\r b", true}, {"\xed\x9f\xbf\xee\x80\x80\xef\xbf\xbd\xf0\x90\x80\x80\xf4\x8f\xbf\xbf", true}, {"\x7f\xc2\x80", true},
		{"a\x00", false}, {"\x08a", false}, {"\x0b", false}, {"\x0c", false}, {"a\x1fb", false},
		{"a\xef\xbf\xbe", false}, {"\xef\xbf\xbfa", false}, {"a\xff", false}, {"\xed\xa0\x80", false}, {"a\xe2\x82", false},
	} {
		if Text([]byte(c.b)) != c.want {
			t.Errorf("Text(%X): %v", c.b, !c.want)
		}
	}
}

// TestMemory is R3: arguments and their spare room stay as they are, and answers are nobody else's.
func TestMemory(t *testing.T) {
	room := []byte("a\xe2\x82\xacb!!!!")
	b := room[:5]
	l, _ := Chars(b)
	Valid(b)
	Text(b)
	if string(room) != "a\xe2\x82\xacb!!!!" {
		t.Errorf("%X", room)
	}
	b[0] = 'z'
	if again, _ := Chars(b); l[0] != 'a' || again[0] != 'z' {
		t.Error(l, again)
	}
	runes := []rune{'a', 0x20AC, 'b', '!', '!'}
	one, _ := Bytes(runes[:3]...)
	two, _ := Bytes(runes[:3]...)
	clear(one[:cap(one)])
	if string(two) != "a\xe2\x82\xacb" || !slices.Equal(runes, []rune{'a', 0x20AC, 'b', '!', '!'}) {
		t.Errorf("%X %X", two, runes)
	}
}
