package name

import (
	"math"
	"regexp"
	"strings"
	"testing"
	"unicode/utf8"
	"unsafe"
)

// What a character may do in a name.
const (
	nothing = iota
	stand
	begin
)

// stretch is a stretch of numbers that may all do the same.
type stretch struct {
	first, last rune
	does        int
}

// stretches are all numbers, one stretch behind the other, by the chapter's words.
func stretches() []stretch {
	return []stretch{
		{math.MinInt32, '-' - 1, nothing}, {'-', '.', stand}, {'/', '/', nothing},
		{'0', '9', stand}, {':', '@', nothing}, {'A', 'Z', begin}, {'[', '^', nothing},
		{'_', '_', begin}, {'`', '`', nothing}, {'a', 'z', begin}, {'{', 0xB6, nothing},
		{0xB7, 0xB7, stand}, {0xB8, 0xBF, nothing}, {0xC0, 0xD6, begin}, {0xD7, 0xD7, nothing},
		{0xD8, 0xF6, begin}, {0xF7, 0xF7, nothing}, {0xF8, 0x2FF, begin}, {0x300, 0x36F, stand},
		{0x370, 0x37D, begin}, {0x37E, 0x37E, nothing}, {0x37F, 0x1FFF, begin},
		{0x2000, 0x200B, nothing}, {0x200C, 0x200D, begin}, {0x200E, 0x203E, nothing},
		{0x203F, 0x2040, stand}, {0x2041, 0x206F, nothing}, {0x2070, 0x218F, begin},
		{0x2190, 0x2BFF, nothing}, {0x2C00, 0x2FEF, begin}, {0x2FF0, 0x3000, nothing},
		{0x3001, 0xD7FF, begin}, {0xD800, 0xF8FF, nothing}, {0xF900, 0xFDCF, begin},
		{0xFDD0, 0xFDEF, nothing}, {0xFDF0, 0xFFFD, begin}, {0xFFFE, 0xFFFF, nothing},
		{0x10000, 0xEFFFF, begin}, {0xF0000, math.MaxInt32, nothing},
	}
}

func does(r rune) int {
	for _, s := range stretches() {
		if s.first <= r && r <= s.last {
			return s.does
		}
	}
	panic("the stretches leave a number out")
}

// names is XML's own rule of names without colons, as another program reads it.
func names() *regexp.Regexp {
	const first = `A-Z_a-z\x{C0}-\x{D6}\x{D8}-\x{F6}\x{F8}-\x{2FF}\x{370}-\x{37D}\x{37F}-\x{1FFF}` +
		`\x{200C}-\x{200D}\x{2070}-\x{218F}\x{2C00}-\x{2FEF}\x{3001}-\x{D7FF}\x{F900}-\x{FDCF}` +
		`\x{FDF0}-\x{FFFD}\x{10000}-\x{EFFFF}`
	return regexp.MustCompile(`\A[` + first + `][-.0-9\x{B7}\x{300}-\x{36F}\x{203F}-\x{2040}` + first + `]*\z`)
}

func checkChar(t *testing.T, r rune, does int) {
	t.Helper()
	if Begins(r) != (does == begin) {
		t.Fatalf("Begins(%X): %v", r, Begins(r))
	}
	if Stands(r) != (does != nothing) {
		t.Fatalf("Stands(%X): %v", r, Stands(r))
	}
}

// TestStretches goes through both ends of each stretch, what lies beside them, and all characters.
func TestStretches(t *testing.T) {
	l := stretches()
	for i, s := range l {
		if i > 0 && (l[i-1].last+1 != s.first || l[i-1].does == s.does) || s.first > s.last {
			t.Fatalf("the stretch from %X on", s.first)
		}
		checkChar(t, s.first, s.does)
		checkChar(t, s.last, s.does)
	}
	for _, s := range l {
		for r := max(s.first, -0x1000); r <= min(s.last, 0x120000); r++ {
			checkChar(t, r, s.does)
		}
	}
}

func TestNoCharacters(t *testing.T) {
	for _, r := range []rune{
		math.MinInt32, math.MinInt32 + 'a', math.MinInt32 + 0xFFFF, -'a', -'_', -'0', -2, -1,
		0xD800, 0xDBFF, 0xDC00, 0xDFFF,
		0x110000, 0x110000 + 'a', 0x1000000 + 'a', 0x1FFFFF, math.MaxInt32 - 1, math.MaxInt32,
	} {
		checkChar(t, r, nothing)
	}
}

// TestEachCharacter makes names of each character: alone, first, behind another one, and between others.
func TestEachCharacter(t *testing.T) {
	for r := rune(0); r <= utf8.MaxRune; r++ {
		if !utf8.ValidRune(r) {
			continue
		}
		s := string(r)
		begins, stands := Begins(r), Stands(r)
		if Is(s) != begins || Is(s+"a") != begins || Is("a"+s) != stands || Is("a"+s+"\u00d7") || Is("_"+s+"-") != stands {
			t.Fatalf("Is of texts with %X", r)
		}
	}
}

func checkName(t *testing.T, s string, want bool) {
	t.Helper()
	if Is(s) != want {
		t.Errorf("Is(%q): %v", s, !want)
	}
}

func TestNames(t *testing.T) {
	for _, s := range []string{
		"a", "Z", "_", "__", "a-1.b", "a--", "a..", "xml", "Signature", "A0123456789", "_.-", "C14N",
		"\u00e9", "\u00e9t\u00e9", "a\u00e9", "\u03a9mega", "a\u00b7", "a\u0300", "a\u203f\u2040",
		"\u6587\u66f8", "a\u6587", "\u6587a", "\ufffd", "a\ufffd", "\ufffda", "\ufffd\ufffd",
		"\U00010000", "a\U000effff", "\U00010000a\u00e9\u6587-", "\u200c\u200d", "\u20ac", "a\u20ac", "\ud7ff\uf900",
		strings.Repeat("a", 100000), strings.Repeat("\u6587", 10000),
	} {
		checkName(t, s, true)
	}
	for _, s := range []string{
		// No text, and blanks.
		"", " ", "\t", "\x00", " a", "a ", "a b", "a\tb", "a\n", "\na", "\r\n", "a\u00a0", "\u3000a",
		// What may stand in a name, but begins none.
		"1", "1a", "-", "-a", ".", ".a", "..", "\u00b7", "\u00b7a", "\u0300", "\u0300a", "\u036fa", "\u203f", "\u2040a", "0_",
		// What may not stand in one.
		":", "a:b", "a:", ":a", "a::b", "a/b", "/a", "a@", "@a", "a+b", "a,b", "a;", "a=", "a(", "*", "a*", "$a", "#a", "&a;", "<a>", "a'", "a\"",
		"\u00d7", "a\u00d7", "\u00f7", "a\u00f7b", "\u037e", "a\u037e", "\u2190", "a\u2190", "\ue000", "a\uf8ff", "\ufdd0", "a\ufeff\uffff", "\ufffe", "a\uffff",
		"\U000f0000", "a\U000f0000", "\U0010ffff", "a\x7f", "a\u0080", "a\u2028",
		strings.Repeat("a", 100000) + " ",
	} {
		checkName(t, s, false)
	}
}

// TestWrongBytes has bytes that aren't characters': a reader that takes them for FFFD takes them for a name.
func TestWrongBytes(t *testing.T) {
	for _, wrong := range []string{
		"\x80", "\xbf", "\xc3", "\xff", "\xfe", "\xe2\x82", "\xe6\x96", "\xf0\x90\x80", "\xf0",
		"\xc1\xa1", "\xe0\x81\xa1", "\xf0\x80\x81\xa1", "\xed\xa0\x80", "\xed\xbf\xbf", "\xed\xa0\x80\xed\xb0\x80",
		"\xf4\x90\x80\x80", "\xf8\x88\x80\x80\x80",
	} {
		for _, s := range []string{wrong, wrong + "a", "a" + wrong, "a" + wrong + "b", "\u6587" + wrong, "\ufffd" + wrong, wrong + wrong} {
			checkName(t, s, false)
			checkNotFull(t, s)
			checkNotFull(t, s+":a")
			checkNotFull(t, "a:"+s)
		}
	}
}

func checkFull(t *testing.T, s, prefix, local string) {
	t.Helper()
	if p, l, ok := Split(s); !ok || p != prefix || l != local {
		t.Errorf("Split(%q): %q, %q, %v", s, p, l, ok)
	}
}

func checkNotFull(t *testing.T, s string) {
	t.Helper()
	if p, l, ok := Split(s); ok || p != "" || l != "" {
		t.Errorf("Split(%q): %q, %q, %v", s, p, l, ok)
	}
}

func TestFullNames(t *testing.T) {
	for _, c := range [][3]string{
		{"ds:Signature", "ds", "Signature"}, {"a", "", "a"}, {"p:a", "p", "a"}, {"a:a", "a", "a"}, {"_:_", "_", "_"},
		{"xml:lang", "xml", "lang"}, {"xmlns", "", "xmlns"}, {"xmlns:p", "xmlns", "p"}, {"a-1.b:c-2.", "a-1.b", "c-2."},
		{"\u00e9:\u6587", "\u00e9", "\u6587"}, {"\U00010000:\ufffd", "\U00010000", "\ufffd"}, {"a\u00b7:b\u0300", "a\u00b7", "b\u0300"},
		{"\ufffd", "", "\ufffd"},
	} {
		checkFull(t, c[0], c[1], c[2])
	}
	for _, s := range []string{
		"", ":", "::", ":::", "a:", ":a", "a::", "::a", ":a:", "a::b", "a:b:", ":a:b", "a:b:c", "a:b:c:d", "a:b::c",
		"a:1", "1:a", "1:1", "1", "-", "a:-", ".:a", "a:.", "\u00b7:a", "a:\u00b7", "a:\u0300",
		" ", " a", "a ", " a:b", "a:b ", "a :b", "a: b", "a b:c", "a:b c", "a:\n", "\t:a", "a:*", "*:a", "*", "a:b@", "@a:b",
		"a\uff1ab:", "\u00d7:a", "a:\u00d7", "a/b:c", "a:b/c",
	} {
		checkNotFull(t, s)
	}
	long := strings.Repeat("a", 50000)
	checkFull(t, long+":"+long, long, long)
	checkNotFull(t, long+":"+long+":")
}

// TestShortTexts goes through all short texts of some characters and bytes.
func TestShortTexts(t *testing.T) {
	rule := names()
	isName := func(s string) bool { return utf8.ValidString(s) && rule.MatchString(s) }
	var walk func(s string, left int)
	walk = func(s string, left int) {
		if Is(s) != isName(s) {
			t.Fatalf("Is(%q): %v", s, Is(s))
		}
		parts := strings.Split(s, ":")
		switch {
		case len(parts) == 1 && isName(s):
			checkFull(t, s, "", s)
		case len(parts) == 2 && isName(parts[0]) && isName(parts[1]):
			checkFull(t, s, parts[0], parts[1])
		default:
			checkNotFull(t, s)
		}
		if left == 0 {
			return
		}
		for _, c := range []string{"a", "1", ":", "-", " ", "\u00b7", "\u6587", "\U00010000", "\u00d7", "\xff", "\xc3", "\xa9"} {
			walk(s+c, left-1)
		}
	}
	walk("", 5)
}

// TestNamesByAnotherRule holds each character against XML's own rule.
func TestNamesByAnotherRule(t *testing.T) {
	rule := names()
	for r := rune(0); r <= utf8.MaxRune; r++ {
		if !utf8.ValidRune(r) {
			continue
		}
		if s := string(r); Is(s) != rule.MatchString(s) || Is("a"+s) != rule.MatchString("a"+s) || does(r) == begin != Is(s) {
			t.Fatalf("%X", r)
		}
	}
}

func TestBlank(t *testing.T) {
	for n := range 256 {
		want := n == 0x20 || n == 0x9 || n == 0xA || n == 0xD
		if Blank(byte(n)) != want {
			t.Errorf("Blank(%X): %v", n, !want)
		}
	}
}

func checkTrim(t *testing.T, s, want string) {
	t.Helper()
	if got := Trim(s); got != want {
		t.Errorf("Trim(%q): %q", s, got)
	}
}

func TestTrim(t *testing.T) {
	for _, blank := range []string{"", " ", "\t", "\n", "\r", "\r\n", " \t\n\r", "\r\r  \n\t", strings.Repeat(" \n", 1000)} {
		checkTrim(t, blank, "")
		checkTrim(t, blank+blank, "")
		for _, s := range []string{"a", "ab", "a" + blank + "b", "a b", "a \t\r\n b c", "\u6587", "a:b", "\xff", "\xff \x80", "\x00", "\x00 \x00"} {
			checkTrim(t, s, s)
			checkTrim(t, blank+s, s)
			checkTrim(t, s+blank, s)
			checkTrim(t, blank+s+blank, s)
		}
	}
}

// TestTrimNoBlanks has what isn't one of the four blanks, though other rules say it is.
func TestTrimNoBlanks(t *testing.T) {
	for n := range 256 {
		c := string([]byte{byte(n)})
		want := c
		if n == 0x20 || n == 0x9 || n == 0xA || n == 0xD {
			want = ""
		}
		checkTrim(t, c, want)
		checkTrim(t, " "+c+"\n", want)
		checkTrim(t, "a"+c, "a"+want)
		checkTrim(t, c+"a", want+"a")
		checkTrim(t, "a"+c+"a", "a"+c+"a")
	}
	for _, s := range []string{"\v", "\f", "\x00", "\x1c", "\x1f", "\u0085", "\u00a0", "\u1680", "\u2003", "\u2028", "\u2029", "\u3000", "\u200b", "\ufeff"} {
		checkTrim(t, s, s)
		checkTrim(t, s+" a "+s, s+" a "+s)
		checkTrim(t, " "+s+" ", s)
	}
}

// TestShortTrims goes through all short texts of blanks and others.
func TestShortTrims(t *testing.T) {
	rule := regexp.MustCompile(`\A[ \t\n\r]*((?s:.*?))[ \t\n\r]*\z`)
	var walk func(s string, left int)
	walk = func(s string, left int) {
		checkTrim(t, s, rule.FindStringSubmatch(s)[1])
		if left == 0 {
			return
		}
		for _, c := range []string{" ", "\t", "\n", "\r", "\v", "a", "\u00a0"} {
			walk(s+c, left-1)
		}
	}
	walk("", 5)
}

// shares tells whether part lies in the memory of whole.
func shares(part, whole string) bool {
	at, from := uintptr(unsafe.Pointer(unsafe.StringData(part))), uintptr(unsafe.Pointer(unsafe.StringData(whole)))
	return part != "" && from <= at && at < from+uintptr(len(whole))
}

// TestMemory is R3: an answer is new memory.
func TestMemory(t *testing.T) {
	for _, s := range []string{"ds:Signature", "Signature", " ds:Signature\n", " a", "a ", "a"} {
		s = strings.Clone(s)
		prefix, local, _ := Split(s)
		trimmed := Trim(s)
		if shares(prefix, s) || shares(local, s) || shares(trimmed, s) {
			t.Errorf("an answer shares the memory of %q", s)
		}
		if !shares(s[len(s)-1:], s) {
			t.Errorf("what shares the memory of %q isn't found out", s)
		}
	}
}
