package chars

import (
	"encoding/xml"
	"fmt"
	"io"
	"math/big"
	"regexp"
	"strings"
	"testing"
	"unicode/utf8"
	"unsafe"
)

func checkLines(t *testing.T, s, want string) {
	t.Helper()
	if got := Lines(s); got != want {
		t.Errorf("Lines(%.80q): %.80q", s, got)
	}
}

// content fails if Content(s) isn't want.
func content(t *testing.T, s, want string) {
	t.Helper()
	if got, ok := Content(s); !ok || got != want {
		t.Errorf("Content(%.80q): %.80q, %v", s, got, ok)
	}
}

// noContent fails if s may stand between tags, or if there is something beside false.
func noContent(t *testing.T, s string) {
	t.Helper()
	if got, ok := Content(s); ok || got != "" {
		t.Errorf("Content(%.80q): %.80q, %v", s, got, ok)
	}
}

func value(t *testing.T, s, want string) {
	t.Helper()
	if got, ok := Value(s); !ok || got != want {
		t.Errorf("Value(%.80q): %.80q, %v", s, got, ok)
	}
}

func noValue(t *testing.T, s string) {
	t.Helper()
	if got, ok := Value(s); ok || got != "" {
		t.Errorf("Value(%.80q): %.80q, %v", s, got, ok)
	}
}

// both is for what is the same in Content and in Value.
func both(t *testing.T, s, want string) {
	t.Helper()
	content(t, s, want)
	value(t, s, want)
}

func neither(t *testing.T, s string) {
	t.Helper()
	noContent(t, s)
	noValue(t, s)
}

// isReference fails if the reference s isn't want, alone and among others.
func isReference(t *testing.T, s, want string) {
	t.Helper()
	for _, c := range [][2]string{
		{"", ""}, {"a", "b"}, {"", ";"}, {";", ""}, {"\u6587", "\u00e9"}, {"]", ">"}, {" ", " "},
	} {
		both(t, c[0]+s+c[1], c[0]+want+c[1])
	}
	both(t, "&lt;"+s+"&#65;", "<"+want+"A")
	both(t, s+s+s, want+want+want)
}

// noReference fails if s, which begins with a &, is let stand, alone or among others.
func noReference(t *testing.T, s string) {
	t.Helper()
	for _, c := range [][2]string{{"", ""}, {"a", ""}, {"&lt;", ""}, {"&#65;\u6587", ""}, {"", " b"}, {"", "&lt;"}, {"a", " &#x41;"}} {
		neither(t, c[0]+s+c[1])
	}
}

// may is the chapter's words on which characters may stand, apart from layer 1.
func may(n int64) bool {
	for _, s := range [][2]int64{{0x9, 0xA}, {0xD, 0xD}, {0x20, 0xD7FF}, {0xE000, 0xFFFD}, {0x10000, 0x10FFFF}} {
		if s[0] <= n && n <= s[1] {
			return true
		}
	}
	return false
}

func TestExamples(t *testing.T) {
	content(t, "a&#x41;&lt;", "aA<")
	value(t, "a&#10;\nb", "a\n b")
}

func TestLines(t *testing.T) {
	for _, c := range [][2]string{
		{"", ""}, {"a", "a"}, {"a b\tc", "a b\tc"}, {"\n", "\n"}, {"a\nb", "a\nb"}, {"\n\n", "\n\n"},
		// D alone, and in rows.
		{"\r", "\n"}, {"a\rb", "a\nb"}, {"\ra", "\na"}, {"a\r", "a\n"}, {"\r\r", "\n\n"}, {"\r\r\r", "\n\n\n"}, {"a\r\rb\rc", "a\n\nb\nc"},
		// With an A behind.
		{"\r\n", "\n"}, {"a\r\nb", "a\nb"}, {"\r\na", "\na"}, {"a\r\n", "a\n"}, {"\r\n\r\n", "\n\n"}, {"\r\r\n", "\n\n"}, {"\r\r\n\n", "\n\n\n"}, {"\r\n\n", "\n\n"},
		// With an A ahead.
		{"\n\r", "\n\n"}, {"a\n\rb", "a\n\nb"}, {"\n\r\n", "\n\n"}, {"\n\r\r", "\n\n\n"}, {"\n\n\r\r\n\n", "\n\n\n\n\n"},
		// With others between.
		{"\r \n", "\n \n"}, {"\r\t\n", "\n\t\n"}, {"\r\x00\n", "\n\x00\n"},
		// What other rules take for ends of lines.
		{"\u0085\u2028\u2029\v\f", "\u0085\u2028\u2029\v\f"}, {"\r\u0085", "\n\u0085"},
		// References, and what looks like them.
		{"&#13;&#xD;\\r\\n&#13;\n", "&#13;&#xD;\\r\\n&#13;\n"}, {"&#13;\r\n", "&#13;\n"}, {"<a>]]>&\r", "<a>]]>&\n"},
		{"\u6587\r\n\u00e9\r\U0001F600", "\u6587\n\u00e9\n\U0001F600"}, {"\xff\r\n\x80\r", "\xff\n\x80\n"}, {"\xc3\r\xa9", "\xc3\n\xa9"}, {"\x8d\x8a\r", "\x8d\x8a\n"},
	} {
		checkLines(t, c[0], c[1])
	}
	n := 100000
	checkLines(t, strings.Repeat("\r", n), strings.Repeat("\n", n))
	checkLines(t, strings.Repeat("\r\n", n), strings.Repeat("\n", n))
	checkLines(t, strings.Repeat("\n\r", n), strings.Repeat("\n", n+1))
	checkLines(t, strings.Repeat("a", n), strings.Repeat("a", n))
}

// TestLinesEachByte has each byte alone, and on both sides of a D and of an A.
func TestLinesEachByte(t *testing.T) {
	for n := range 256 {
		c := string([]byte{byte(n)})
		if n != 0xA && n != 0xD {
			checkLines(t, c, c)
			checkLines(t, c+"\r"+c+"\r\n"+c, c+"\n"+c+"\n"+c)
			checkLines(t, "\r"+c+"\n", "\n"+c+"\n")
		}
	}
}

// TestShortLines goes through all short texts of some bytes.
func TestShortLines(t *testing.T) {
	ends := regexp.MustCompile(`\r\n?`)
	var walk func(s string, left int)
	walk = func(s string, left int) {
		checkLines(t, s, ends.ReplaceAllString(s, "\n"))
		// What has its lines ended is left as it is.
		checkLines(t, Lines(s), Lines(s))
		if left == 0 {
			return
		}
		for _, c := range []string{"\r", "\n", "a", " ", "\t"} {
			walk(s+c, left-1)
		}
	}
	walk("", 7)
}

func TestPlain(t *testing.T) {
	for _, s := range []string{
		"", "a", " ", "a b", "'", "\"", "'\"", ">", "]", "]]", "]>", "] ]>", "]] >", ">]]", "]>]", "a>b", ";", "#", "#65;", "x41;", "lt;", "a;b", "#;#x;",
		"\u00e9", "\u6587\u66f8", "\U0001F600", "\ufffd", "\u0085\u2028\u00a0", "\x7f\u0080", "\ud7ff\ue000\ufffd\U00010000\U0010ffff",
		"[CDATA[", "--", "?>", "/>", "%lt;", "\uff1c\uff06", "\u037e", strings.Repeat("a", 100000), strings.Repeat("]", 1001),
	} {
		both(t, s, s)
	}
}

func TestNamed(t *testing.T) {
	for name, want := range map[string]string{"lt": "<", "gt": ">", "amp": "&", "apos": "'", "quot": "\""} {
		isReference(t, "&"+name+";", want)
		noReference(t, "&"+name)
		for i := range len(name) {
			noReference(t, "&"+name[:i]+";")
			noReference(t, "&"+name[i+1:]+";")
			noReference(t, "&"+name[:i]+strings.ToUpper(name[i:i+1])+name[i+1:]+";")
			noReference(t, "&"+name[:i]+name[i+1:]+";")
			noReference(t, "&"+name[:i]+" "+name[i:]+";")
			noReference(t, "&"+name[:i]+name[i:i+1]+name[i:]+";")
		}
		for _, s := range []string{
			strings.ToUpper(name) + ";", name + " ;", name + "\n;", name + ":", name + ",", name + "\u037e", name + "\uff1b", "#" + name + ";", "#x" + name + ";", "&" + name + ";",
			name + "1;", "a" + name + ";", name + "a;", name + "\u0300;", name + "\x00;", name + "\xff;", "x:" + name + ";", name + "&;", name + "#;",
		} {
			noReference(t, "&"+s)
		}
		// What a reference is isn't read again.
		both(t, "&amp;"+name+";", "&"+name+";")
		both(t, "&#38;"+name+";", "&"+name+";")
		both(t, "&#x26;"+name+";", "&"+name+";")
		both(t, "&"+name+";;", want+";")
		both(t, "&"+name+";"+name+";", want+name+";")
	}
}

func TestNoNames(t *testing.T) {
	for _, s := range []string{
		"&", "&;", "&&", "&&;", "&;;", "& ", "& ;", "& lt;", "&\tlt;", "&\nlt;", "&\rlt;", "&lt ;", "&l t;", "&a;", "&nbsp;", "&copy;", "&l;", "&ltt;", "&gtlt;", "&ltgt;", "&amps;", "&ampamp;", "&apo;", "&apostrophe;", "&quote;", "&quo;",
		"&;lt;", "&&lt;", "&lt&gt;", "&lt,", "&lt", "&<;", "&'", "&\"", "&>", "&1;", "&-;", "&_;", "&\u6587;", "&\u00e9;", "&\uff4c\uff54;", "&\U0001F600;",
		"&%lt;", "&xlt;", "&#lt;", "&#", "&#;", "&#x", "&#x;", "&# ;", "&#x ;", "&##65;", "&#&#65;", "&#65", "&#x41", "&#65:", "&65;", "&x41;",
	} {
		noReference(t, s)
	}
	neither(t, "a &"+strings.Repeat("a", 100000)+";")
	neither(t, strings.Repeat("&", 100000))
	neither(t, strings.Repeat("&lt;", 30000)+"&")
	both(t, strings.Repeat("&lt;", 30000), strings.Repeat("<", 30000))
}

// forms are the ways to write a number as a reference.
func forms(n int64) []string {
	return []string{
		fmt.Sprintf("&#%d;", n), fmt.Sprintf("&#x%x;", n), fmt.Sprintf("&#x%X;", n), fmt.Sprintf("&#00%d;", n), fmt.Sprintf("&#x000%x;", n),
	}
}

// TestEachNumber has the number of each character, and those around and behind all of them.
func TestEachNumber(t *testing.T) {
	for n := int64(0); n <= 0x112000; n++ {
		want := ""
		if may(n) {
			want = string(rune(n))
		}
		for i, s := range forms(n) {
			got, ok := Content(s)
			if i > 1 {
				got, ok = Value(s)
			}
			if ok != may(n) || got != want {
				t.Fatalf("%s: %q, %v", s, got, ok)
			}
		}
	}
}

// TestEnds has each end of the characters that may stand, and the numbers beside it, among others.
func TestEnds(t *testing.T) {
	for _, end := range []int64{0, 0x9, 0xA, 0xD, 0x20, 0x7F, 0x80, 0xFF, 0x7FF, 0x800, 0xD7FF, 0xD800, 0xDBFF, 0xDC00, 0xDFFF, 0xE000, 0xFDD0, 0xFFFD, 0xFFFE, 0xFFFF, 0x10000, 0x1F600, 0x1FFFE, 0x10FFFF, 0x110000} {
		for _, n := range []int64{end - 1, end, end + 1} {
			for _, s := range forms(n) {
				if may(n) {
					isReference(t, s, string(rune(n)))
				} else {
					noReference(t, s)
				}
			}
		}
	}
}

// TestGreatNumbers has numbers that a machine number wraps round to a character's.
func TestGreatNumbers(t *testing.T) {
	one := big.NewInt(1)
	for _, low := range []int64{-1, 0, 1, 9, 0xA, 0x20, 0x41, 0xFFFD, 0x10FFFF} {
		for shift := uint(21); shift <= 300; shift++ {
			n := new(big.Int).Lsh(one, shift)
			n.Add(n, big.NewInt(low))
			for _, s := range []string{n.String(), "x" + n.Text(16), "x" + strings.ToUpper(n.Text(16)), "000" + n.String(), "x00" + n.Text(16)} {
				neither(t, "&#"+s+";")
			}
		}
	}
	for k := range 300 {
		noughts := strings.Repeat("0", k)
		neither(t, "&#x1"+noughts+"00000041;")
		neither(t, "&#x8"+noughts+"00000041;")
		neither(t, "&#1"+noughts+"0000065;")
		neither(t, "&#"+strings.Repeat("9", k+7)+";")
		neither(t, "&#x"+strings.Repeat("f", k+6)+";")
		neither(t, "&#x"+strings.Repeat("F", k+6)+";")
	}
	for _, s := range []string{"1114112", "1114177", "2097217", "16777281", "2147483647", "2147483648", "2147483713", "4294967295", "4294967296", "4294967361", "9223372036854775808", "18446744073709551615", "18446744073709551681"} {
		noReference(t, "&#"+s+";")
	}
	neither(t, "&#"+strings.Repeat("9", 100000)+";")
	neither(t, "&#x"+strings.Repeat("f", 100000)+";")
	neither(t, "&#x1"+strings.Repeat("0", 100000)+";")
}

func TestNoughts(t *testing.T) {
	for k := range 200 {
		noughts := strings.Repeat("0", k)
		both(t, "&#"+noughts+"65;", "A")
		both(t, "&#x"+noughts+"41;", "A")
		both(t, "&#x"+noughts+"10fFfF;", "\U0010ffff")
		both(t, "&#"+noughts+"1114111;", "\U0010ffff")
		neither(t, "&#"+noughts+";")
		neither(t, "&#x"+noughts+";")
		neither(t, "&#"+noughts+"1;")
		neither(t, "&#x"+noughts+"110000;")
		neither(t, "&#0"+noughts+"x41;")
	}
	long := strings.Repeat("0", 100000)
	both(t, "a&#"+long+"65;b", "aAb")
	both(t, "a&#x"+long+"41;b", "aAb")
	neither(t, "&#"+long+";")
	neither(t, "&#x"+long+";")
}

// TestEachDigit has each byte in the place of a digit.
func TestEachDigit(t *testing.T) {
	decimal, hexadecimal := "0123456789", "0123456789abcdefABCDEF"
	check := func(s string, c byte, digits string, base, rest int64) {
		at := strings.IndexByte(digits, c)
		if at < 0 {
			neither(t, s)
			return
		}
		worth := int64(at)
		if at > 15 {
			worth -= 6
		}
		both(t, s, string(rune(worth*base+rest)))
	}
	for n := range 256 {
		c := byte(n)
		if c == ';' {
			continue
		}
		s := string([]byte{c})
		check("&#9"+s+";", c, decimal, 1, 90)
		check("&#1"+s+"5;", c, decimal, 10, 105)
		if c != 'x' {
			check("&#"+s+"099;", c, decimal, 1000, 99)
		}
		check("&#x4"+s+";", c, hexadecimal, 1, 0x40)
		check("&#x1"+s+"5;", c, hexadecimal, 0x10, 0x105)
		check("&#x"+s+"099;", c, hexadecimal, 0x1000, 0x99)
	}
}

func TestWrongDigits(t *testing.T) {
	for _, s := range []string{
		"&#X41;", "&#X;", "&#xX41;", "&#xx41;", "&#0x41;", "&#x0x41;", "&#h41;", "&#41h;", "&#$41;", "&#u0041;", "&#o101;", "&#0b1000001;", "&X41;", "&#xG;", "&#xg0;", "&#x4G;", "&#x4g;",
		"&#A;", "&#a;", "&#F;", "&#6A;", "&#6a;", "&#A6;", "&#1e1;", "&#6e1;", "&#+65;", "&#-65;", "&#-1;", "&#x+41;", "&#x-41;", "&# 65;", "&#65 ;", "&#6 5;", "&#\t65;", "&#65\n;", "&# x41;", "&#x 41;", "&#x41 ;", "& #65;", "& #x41;",
		"&#6_5;", "&#x4_1;", "&#6,5;", "&#65.0;", "&#65.;", "&#.65;", "&#6'5;", "&#\u0666\u0665;", "&#\uff16\uff15;", "&#6\uff15;", "&#x\uff14\uff11;", "&#x4\u0661;", "&#\u2076;", "&#x\u2160;", "&#\u00b2;", "&#x\uff21;",
		"&#6\x005;", "&#65\x00;", "&#6\xff;", "&#x4\x80;", "&#65,", "&#65&#65;", "&#65&;", "&#x41&lt;", "&#6<5;", "&#65\u037e", "&#x41\uff1b", "&#65;&", "&#x41;&#", "&#x41;&#x",
	} {
		noReference(t, s)
	}
	for s, want := range map[string]string{
		"&#65;": "A", "&#x41;": "A", "&#x6a;": "j", "&#x6A;": "j", "&#xaf;": "\u00af", "&#xAF;": "\u00af", "&#xaF;": "\u00af", "&#xAf;": "\u00af", "&#xabcdef;": "", "&#xabcd;": "\uabcd", "&#xABCD;": "\uabcd", "&#xaBcD;": "\uabcd",
		"&#xEF01;": "\uef01", "&#xef01;": "\uef01", "&#x10fFFf;": "\U0010ffff", "&#1114111;": "\U0010ffff", "&#8364;": "\u20ac", "&#x20aC;": "\u20ac", "&#128512;": "\U0001F600", "&#x1F600;": "\U0001F600", "&#38;": "&", "&#60;": "<", "&#x3c;": "<", "&#59;": ";", "&#35;": "#",
	} {
		if want == "" {
			noReference(t, s)
		} else {
			isReference(t, s, want)
		}
	}
}

func TestSideBySide(t *testing.T) {
	both(t, "&lt;&gt;&amp;&apos;&quot;", "<>&'\"")
	both(t, "&#60;&#62;&#38;&#39;&#34;", "<>&'\"")
	both(t, "&#x3C;&#x3e;&#x26;&#x27;&#x22;", "<>&'\"")
	both(t, "&amp;amp;amp;", "&amp;amp;")
	both(t, "&amp;#65;", "&#65;")
	both(t, "&amp;#x41;&#65;", "&#x41;A")
	both(t, "&#38;&#35;65;", "&#65;")
	both(t, "&#x26;lt&#59;", "&lt;")
	both(t, "&lt;&#x6587;&gt;\u6587&#10;", "<\u6587>\u6587\n")
	// Halves of what other encodings take for one character.
	neither(t, "&#xD83D;&#xDE00;")
	neither(t, "&#55357;&#56832;")
	// Bytes of a character, as numbers, are characters of their own.
	both(t, "&#xC3;&#xA9;", "\u00c3\u00a9")
	for _, s := range []string{"&lt;&", "&&lt;", "&lt&gt;", "&lt;&gt", "&lt;&;&gt;", "&lt;&x;&gt;", "&lt;&#;&gt;", "&lt; & &gt;", "&#65;&#0;&#66;", "a&lt;b&c"} {
		neither(t, s)
	}
}

func TestLess(t *testing.T) {
	for _, s := range []string{"<", "a<", "<a", "a<b", "<<", "<a>", "</a>", "<!--a-->", "<![CDATA[a]]>", "<?a?>", "&lt;<", "<&lt;", "&<lt;", "&lt<;", "]]<", "<\n", "\u6587<", strings.Repeat("a", 100000) + "<"} {
		neither(t, s)
	}
	both(t, "&lt;a&gt;", "<a>")
	both(t, "&#60;a>", "<a>")
	both(t, "&lt;![CDATA[", "<![CDATA[")
}

func TestBrackets(t *testing.T) {
	for _, s := range []string{"]]>", "a]]>", "]]>a", "a]]>b", "]]]>", "]]]]>", "]]>]]>", "]]>>", ">]]>", "]>]]>", "\n]]>", "]]>\u6587"} {
		noContent(t, s)
		value(t, s, strings.ReplaceAll(s, "\n", " "))
	}
	noContent(t, "&lt;]]>&gt;")
	value(t, "&lt;]]>&gt;", "<]]>>")
	noContent(t, strings.Repeat("a", 100000)+"]]>")
	// With what may not stand in a value either.
	for _, s := range []string{"]]><", "]]>&", "&;]]>", "]]>\xff", "]]>\x00"} {
		neither(t, s)
	}
	// In parts.
	for _, s := range []string{"]", "]]", "]]]", "]>", ">", "] ]>", "]] >", "]]a>", "]a]>", ">]]", "]>]", "]]\u6587>", "]\t]>", "]]\n>"} {
		content(t, s, s)
		value(t, s, strings.NewReplacer("\t", " ", "\n", " ").Replace(s))
	}
	// By way of references.
	for _, s := range []string{
		"&#93;]>", "]&#93;>", "]]&gt;", "]]&#62;", "]]&#x3E;", "&#x5d;&#x5D;>", "&#93;&#93;&gt;", "&#x5D;]&gt;", "]&#93;&gt;", "&#0093;]>",
	} {
		both(t, s, "]]>")
		both(t, "a"+s+"b", "a]]>b")
		noContent(t, s+"]]>")
		value(t, s+"]]>", "]]>]]>")
	}
	both(t, "]]&amp;>", "]]&>")
	both(t, "]]&#65;>", "]]A>")
}

// TestBlanks has 9, A, D and 20 themselves, and by references.
func TestBlanks(t *testing.T) {
	for _, c := range []struct {
		blank string
		n     int64
	}{{"\t", 9}, {"\n", 0xA}, {"\r", 0xD}, {" ", 0x20}} {
		for _, s := range []string{"%", "a%", "%a", "a%b", "%%", "%%%a%%"} {
			s = strings.ReplaceAll(s, "%", c.blank)
			content(t, s, s)
			value(t, s, strings.ReplaceAll(s, c.blank, " "))
		}
		for _, form := range forms(c.n) {
			isReference(t, form, c.blank)
			value(t, form+c.blank+form, c.blank+" "+c.blank)
			value(t, c.blank+form+c.blank, " "+c.blank+" ")
			content(t, c.blank+form, c.blank+c.blank)
		}
		neither(t, "&"+c.blank)
		neither(t, "&"+c.blank+"lt;")
		neither(t, "&lt"+c.blank+";")
		neither(t, "&#6"+c.blank+"5;")
	}
	content(t, "a\r\nb\n\rc", "a\r\nb\n\rc")
	value(t, "a\r\nb\n\rc", "a  b  c")
	content(t, " \t\n\r ", " \t\n\r ")
	value(t, " \t\n\r ", "     ")
	content(t, "&#13;\n&#xD;&#xA;", "\r\n\r\n")
	value(t, "&#13;\n&#xD;&#xA;", "\r \r\n")
	both(t, "&amp;#9;&amp;#10;", "&#9;&#10;")
	both(t, "\u0085\u00a0\u2028\u3000", "\u0085\u00a0\u2028\u3000")
	value(t, strings.Repeat("\t\n\r", 10000), strings.Repeat("   ", 10000))
}

// TestWrongBytes has bytes that aren't characters': a reader that takes them for FFFD lets them stand.
func TestWrongBytes(t *testing.T) {
	for _, wrong := range []string{
		"\x80", "\xbf", "\xc3", "\xff", "\xfe", "\xe2\x82", "\xf0\x9f\x98", "\xf0", "\x89", "\x8a", "\x8d", "\xa0",
		"\xc0\x80", "\xc1\x81", "\xc0\xbc", "\xe0\x80\xa6", "\xed\xa0\x80", "\xed\xbf\xbf", "\xed\xa0\xbd\xed\xb8\x80", "\xf4\x90\x80\x80", "\xf8\x88\x80\x80\x80",
	} {
		for _, s := range []string{wrong, wrong + "a", "a" + wrong, "a" + wrong + "b", "\ufffd" + wrong, wrong + "\n", "\t" + wrong, "&lt;" + wrong, wrong + "&#65;", "&" + wrong + ";", "&lt" + wrong + ";", "&#6" + wrong + ";", "]]" + wrong + ">"} {
			neither(t, s)
		}
	}
	neither(t, "\xc3&#xA9;")
	neither(t, "\xc3\r\xa9")
	neither(t, "\xc3\n\xa9")
}

// TestEachCharacter has each character as it stands.
func TestEachCharacter(t *testing.T) {
	for r := rune(0); r <= utf8.MaxRune; r++ {
		if !utf8.ValidRune(r) {
			continue
		}
		s := "a" + string(r) + "b"
		inContent, inValue := s, s
		switch {
		case !may(int64(r)) || r == '<' || r == '&':
			inContent, inValue = "", ""
		case r == '\t' || r == '\n' || r == '\r':
			inValue = "a b"
		}
		if got, ok := Content(s); got != inContent || ok != (inContent != "") {
			t.Fatalf("Content of %X: %q, %v", r, got, ok)
		}
		if got, ok := Value(s); got != inValue || ok != (inValue != "") {
			t.Fatalf("Value of %X: %q, %v", r, got, ok)
		}
	}
	for _, s := range []string{"\x00", "\x08", "\x0b", "\x0c", "\x0e", "\x1f", "\ufffe", "\uffff"} {
		neither(t, s)
		neither(t, "&lt;"+s)
		neither(t, s+"&gt;")
		neither(t, "&#65"+s+";")
	}
}

// rule is the chapter's words as another program reads them.
type rule struct{ whole, references *regexp.Regexp }

func newRule() rule {
	const reference = `&(?:lt|gt|amp|apos|quot|#[0-9]+|#x[0-9a-fA-F]+);`
	return rule{
		regexp.MustCompile(`\A(?:[^&<\x00-\x08\x0b\x0c\x0e-\x1f\x{fffe}\x{ffff}]|` + reference + `)*\z`),
		regexp.MustCompile(reference),
	}
}

// read answers what the rule makes of s, whose tabs and ends of lines are blanks already where they must be.
func (r rule) read(s string) (string, bool) {
	if !utf8.ValidString(s) || !r.whole.MatchString(s) {
		return "", false
	}
	fine := true
	text := r.references.ReplaceAllStringFunc(s, func(s string) string {
		switch s {
		case "&lt;":
			return "<"
		case "&gt;":
			return ">"
		case "&amp;":
			return "&"
		case "&apos;":
			return "'"
		case "&quot;":
			return "\""
		}
		digits, base := s[2:len(s)-1], 10
		if digits[0] == 'x' {
			digits, base = digits[1:], 16
		}
		n, _ := new(big.Int).SetString(digits, base)
		if !n.IsInt64() || !may(n.Int64()) {
			fine = false
			return ""
		}
		return string(rune(n.Int64()))
	})
	if !fine {
		return "", false
	}
	return text, true
}

func (r rule) check(t *testing.T, s string) {
	t.Helper()
	want, fine := r.read(s)
	if strings.Contains(s, "]]>") {
		want, fine = "", false
	}
	if got, ok := Content(s); ok != fine || got != want {
		t.Fatalf("Content(%q): %q, %v", s, got, ok)
	}
	want, fine = r.read(strings.NewReplacer("\t", " ", "\n", " ", "\r", " ").Replace(s))
	if got, ok := Value(s); ok != fine || got != want {
		t.Fatalf("Value(%q): %q, %v", s, got, ok)
	}
}

// walk goes through all texts of at most left of the parts.
func walk(s string, left int, parts []string, check func(s string)) {
	check(s)
	if left == 0 {
		return
	}
	for _, c := range parts {
		walk(s+c, left-1, parts, check)
	}
}

// TestShortTexts goes through all short texts of some parts.
func TestShortTexts(t *testing.T) {
	r := newRule()
	check := func(s string) { r.check(t, s) }
	walk("", 6, []string{"&", "#", "x", ";", "4", "a"}, check)
	walk("", 6, []string{"]", ">", "&gt;", "&#93;", "a", "&"}, check)
	walk("", 5, []string{"\t", "\n", "\r", " ", "&#9;", "&#xD;", "a"}, check)
	walk("", 4, []string{"&", "#", "x", "X", ";", "&lt;", "amp", "quot", "0", "9", "F", "\u6587", "\xff", "\xc3", "\xa9", "\x00", "<", " ", "\ufffe"}, check)
}

// TestAnotherReader holds Content and Lines against a reader of XML.
func TestAnotherReader(t *testing.T) {
	read := func(s string) (string, bool) {
		d := xml.NewDecoder(strings.NewReader("<a>" + s + "</a>"))
		text := ""
		for {
			token, err := d.Token()
			if err == io.EOF {
				return text, true
			}
			if err != nil {
				return "", false
			}
			if c, ok := token.(xml.CharData); ok {
				text += string(c)
			}
		}
	}
	check := func(s string) {
		want, fine := read(s)
		if got, ok := Content(Lines(s)); ok != fine || got != want {
			t.Fatalf("%q: %q, %v, but by another reader %q, %v", s, got, ok, want, fine)
		}
	}
	walk("", 4, []string{"a", "\r", "\n", "\t", " ", "&lt;", "&amp;", "&apos;", "&#65;", "&#x42;", "&#0;", "&#xFFFF;", "&", ";", "lt", "]]", ">", "\u6587", "\x01"}, check)
	walk("", 6, []string{"\r", "\n", "a", "]", ">"}, check)
}

// shares tells whether part lies in the memory of whole.
func shares(part, whole string) bool {
	at, from := uintptr(unsafe.Pointer(unsafe.StringData(part))), uintptr(unsafe.Pointer(unsafe.StringData(whole)))
	return part != "" && from <= at && at < from+uintptr(len(whole))
}

// TestMemory is R3: an answer is new memory.
func TestMemory(t *testing.T) {
	for _, s := range []string{"a", "abc", "abc\n", "a\r\nb", "abc\r", "&lt;abc", "abc&gt;", "a&#65;b", " a\tb"} {
		s = strings.Clone(s)
		before := strings.Clone(s)
		lines := Lines(s)
		text, _ := Content(s)
		mark, _ := Value(s)
		if shares(lines, s) || shares(text, s) || shares(mark, s) {
			t.Errorf("an answer shares the memory of %q", s)
		}
		if !shares(s[len(s)-1:], s) {
			t.Errorf("what shares the memory of %q isn't found out", s)
		}
		if s != before {
			t.Errorf("%q is %q now", before, s)
		}
	}
}
