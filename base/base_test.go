package base

import (
	"bytes"
	"encoding/base64"
	"slices"
	"strings"
	"testing"
)

// some answers n bytes among which no two stretches are alike.
func some(n int) []byte {
	b := make([]byte, n)
	x := uint32(1)
	for i := range b {
		x = x*1664525 + 1013904223
		b[i] = byte(x >> 24)
	}
	return b
}

// alphabet is the chapter's letters, made by its own ranges.
func alphabet() string {
	var l []byte
	for _, r := range [][2]byte{{'A', 'Z'}, {'a', 'z'}, {'0', '9'}, {'+', '+'}, {'/', '/'}} {
		for c := r[0]; c <= r[1]; c++ {
			l = append(l, c)
		}
	}
	return string(l)
}

// words answers the letters of b as the chapter says them: by groups of three bytes.
func words(b []byte) string {
	l := alphabet()
	text := ""
	for group := range slices.Chunk(b, 3) {
		var whole [3]byte
		copy(whole[:], group)
		n := int(whole[0])<<16 | int(whole[1])<<8 | int(whole[2])
		four := string([]byte{l[n>>18], l[n>>12&63], l[n>>6&63], l[n&63]})
		text += four[:len(group)+1] + "==="[:3-len(group)]
	}
	return text
}

func isBlank(c byte) bool { return c == 0x20 || c == 0x9 || c == 0xA || c == 0xD }

func withoutBlanks(s string) string {
	var l []byte
	for _, c := range []byte(s) {
		if !isBlank(c) {
			l = append(l, c)
		}
	}
	return string(l)
}

// other answers the bytes as another program finds them.
func other(s string) ([]byte, bool) {
	b, err := base64.StdEncoding.Strict().DecodeString(withoutBlanks(s))
	if err != nil {
		return nil, false
	}
	return b, true
}

// refused fails if s has bytes, or if there is something beside false.
func refused(t *testing.T, s string) {
	t.Helper()
	if b, ok := Decode(s); ok || len(b) != 0 {
		t.Errorf("Decode(%q): %X, %v", s, b, ok)
	}
}

func decoded(t *testing.T, s string, want []byte) {
	t.Helper()
	if b, ok := Decode(s); !ok || !bytes.Equal(b, want) {
		t.Errorf("Decode(%q): %X, %v", s, b, ok)
	}
}

// TestKnown has the chapter's example, and those of RFC 4648.
func TestKnown(t *testing.T) {
	for _, c := range []struct{ of, want string }{
		{"", ""},
		{"a", "YQ=="},
		{"f", "Zg=="},
		{"fo", "Zm8="},
		{"foo", "Zm9v"},
		{"foob", "Zm9vYg=="},
		{"fooba", "Zm9vYmE="},
		{"foobar", "Zm9vYmFy"},
		{"\x14\xfb\x9c\x03\xd9\x7e", "FPucA9l+"},
		{"\x14\xfb\x9c\x03\xd9", "FPucA9k="},
		{"\x14\xfb\x9c\x03", "FPucAw=="},
		{"\x00", "AA=="},
		{"\x00\x00", "AAA="},
		{"\x00\x00\x00", "AAAA"},
		{"\xff", "/w=="},
		{"\xff\xff", "//8="},
		{"\xff\xff\xff", "////"},
		{"\xfb\xef\xbe", "++++"},
	} {
		if s := Encode([]byte(c.of)); s != c.want {
			t.Errorf("Encode(%q): %q", c.of, s)
		}
		decoded(t, c.want, []byte(c.of))
	}
}

func TestEachLength(t *testing.T) {
	all := some(1 << 20)
	check := func(b []byte) {
		s := Encode(b)
		if s != base64.StdEncoding.EncodeToString(b) {
			t.Fatalf("%d bytes: %.80q", len(b), s)
		}
		if back, ok := Decode(s); !ok || !bytes.Equal(back, b) {
			t.Fatalf("%d bytes, back: %.80X, %v", len(b), back, ok)
		}
	}
	for n := range 400 {
		if s := Encode(all[:n]); s != words(all[:n]) {
			t.Fatalf("%d bytes, by the words: %q", n, s)
		}
		check(all[:n])
		check(all[n : n+n%7])
		check(make([]byte, n))
		check(bytes.Repeat([]byte{0xFF}, n))
	}
	for n := range 6 {
		check(all[:len(all)-n])
	}
}

// TestEachByte goes through all single bytes and all pairs of them.
func TestEachByte(t *testing.T) {
	for n := range 0x10000 {
		for _, b := range [][]byte{{byte(n)}, {byte(n >> 8), byte(n)}, {byte(n), 0xA5, byte(n >> 8)}} {
			s := Encode(b)
			if s != words(b) {
				t.Fatalf("%X: %q", b, s)
			}
			if back, ok := Decode(s); !ok || !bytes.Equal(back, b) {
				t.Fatalf("%q: %X, %v", s, back, ok)
			}
		}
	}
}

// TestEachLetter puts each letter at each of the four places, among noughts and among ones.
func TestEachLetter(t *testing.T) {
	l := alphabet()
	if len(l) != 64 {
		t.Fatal(l)
	}
	for value := range 64 {
		for place := range 4 {
			for _, around := range []int{0, 63} {
				var values [4]int
				for i := range values {
					values[i] = around
				}
				values[place] = value
				text := string([]byte{l[values[0]], l[values[1]], l[values[2]], l[values[3]]})
				n := values[0]<<18 | values[1]<<12 | values[2]<<6 | values[3]
				want := []byte{byte(n >> 16), byte(n >> 8), byte(n)}
				decoded(t, text, want)
				if s := Encode(want); s != text {
					t.Errorf("Encode(%X): %q", want, s)
				}
			}
		}
	}
}

func TestNothing(t *testing.T) {
	for _, parts := range [][][]byte{nil, {}, {nil}, {{}}, {nil, {}, nil}} {
		if s := Encode(parts...); s != "" {
			t.Errorf("%#v: %q", parts, s)
		}
	}
	for _, s := range []string{"", " ", "\t", "\n", "\r", "\r\n \t", strings.Repeat(" ", 1000)} {
		decoded(t, s, nil)
	}
}

func TestParts(t *testing.T) {
	all := some(40)
	for n := range 20 {
		b := all[:n]
		want := words(b)
		for i := 0; i <= n; i++ {
			if Encode(b[:i], b[i:]) != want || Encode(nil, b[:i], []byte{}, b[i:], nil) != want {
				t.Fatalf("%d bytes parted at %d", n, i)
			}
			for k := i; k <= n; k++ {
				if Encode(b[:i], b[i:k], b[k:]) != want {
					t.Fatalf("%d bytes parted at %d and %d", n, i, k)
				}
			}
		}
	}
	b := some(1000)
	for size := 1; size <= 50; size++ {
		if Encode(slices.Collect(slices.Chunk(b, size))...) != words(b) {
			t.Errorf("parts of %d bytes", size)
		}
	}
}

func TestOrderOfParts(t *testing.T) {
	a, b := []byte("left"), []byte("right")
	if Encode(a, b) != words([]byte("leftright")) || Encode(b, a) != words([]byte("rightleft")) || Encode(a, a) != words([]byte("leftleft")) {
		t.Error("the order of parts")
	}
}

// TestBlanks puts each blank, and some of them, wherever one may stand: also between and behind =.
func TestBlanks(t *testing.T) {
	for n := range 8 {
		b := some(n)
		s := words(b)
		for _, blank := range []string{" ", "\t", "\n", "\r", "\r\n", "  ", " \t\r\n\n\r\t ", strings.Repeat("\n", 100)} {
			for i := 0; i <= len(s); i++ {
				decoded(t, s[:i]+blank+s[i:], b)
				for k := i; k <= len(s); k++ {
					decoded(t, s[:i]+blank+s[i:k]+blank+s[k:], b)
				}
			}
			decoded(t, blank+strings.Join(strings.Split(s, ""), blank)+blank, b)
		}
	}
	for _, s := range []string{"YQ= =", "YQ=\n=", "YQ =\t=\r", "Y Q==", " YQ==", "YQ== ", "Y\r\nQ\r\n=\r\n=\r\n"} {
		decoded(t, s, []byte("a"))
	}
}

// TestBlanksMendNothing: what has no bytes has none by blanks either.
func TestBlanksMendNothing(t *testing.T) {
	for _, s := range []string{"Y", "YQ", "YQ=", "YQJ", "YR==", "=", "==", "====", "YQ==="} {
		for _, blank := range []string{" ", "\t", "\n", "\r"} {
			for count := range 4 {
				refused(t, s+strings.Repeat(blank, count))
				refused(t, strings.Repeat(blank, count)+s)
				refused(t, s[:1]+strings.Repeat(blank, count)+s[1:])
			}
		}
	}
}

// TestOtherCharacters puts each byte that may not stand there at each place: instead of a letter or =, and beside it.
func TestOtherCharacters(t *testing.T) {
	for n := range 7 {
		s := words(some(n))
		for c := range 256 {
			if c == '=' || isBlank(byte(c)) || strings.IndexByte(alphabet(), byte(c)) >= 0 {
				continue
			}
			wrong := string([]byte{byte(c)})
			for i := 0; i <= len(s); i++ {
				refused(t, s[:i]+wrong+s[i:])
				refused(t, s[:i]+strings.Repeat(wrong, 4)+s[i:])
				if i < len(s) {
					refused(t, s[:i]+wrong+s[i+1:])
				}
			}
		}
	}
	// No blanks of the chapter's: a form feed, a no-break space, a line separator, a byte order mark.
	for _, blank := range []string{"\v", "\f", "\x00", "\u0085", "\u00a0", "\u2028", "\ufeff", "\xff"} {
		refused(t, blank)
		refused(t, blank+"YWJj")
		refused(t, "YW"+blank+"Jj")
		refused(t, "YWJj"+blank)
		refused(t, "YQ="+blank+"=")
	}
}

// TestWrongForm has too few letters, and = where it may not stand.
func TestWrongForm(t *testing.T) {
	for _, s := range []string{
		// Too few letters, or no = behind them.
		"Y", "YW", "YWJ", "YQ", "YWI", "YWJjY", "YWJjYQ", "YWJjYWI", "A", "AA", "AAA", "AAAAA", "AAAAAA", "AAAAAAA",
		// Too few =.
		"YQ=", "AA=", "YWJjYQ=",
		// Too many.
		"YQ===", "YQ====", "YWI==", "YWI===", "YWJj=", "YWJj==", "YWJj===", "YWJj====", "A===", "Y===", "YWJjA===", "YQ======",
		// = alone.
		"=", "==", "===", "====", "=====", "========",
		// = ahead of letters, or among them.
		"=YQ=", "==YQ", "=YWI", "Y=Q=", "Y==Q", "YQ=a", "YQ=Q", "Y=WI", "YW=I", "=AAA", "A=AA", "AA=A", "A=A=", "====YWJj", "=YWJj",
		// Letters behind whole texts.
		"YQ==YQ==", "YQ==YWJj", "YWI=YWJj", "YWI=YWI=", "YQ==Y", "YQ==A", "YWI=A", "YQ==AAA", "YWI=AAAA", "AA==AAAA", "AAA=AAAA", "YQ=Y=",
		// Another alphabet, and signs that come near.
		"-_-_", "-___", "Y-==", "YQ--", "YQ..", "YQ%3D%3D", "YQ==;", "YQ==\x00", "\x00YQ==", "YW,j", "YW*j", "YW.j", "YW:j", "YW@j", "YW[j", "YW`j", "YW{j",
	} {
		refused(t, s)
		refused(t, "YWJj"+s)
	}
}

// TestLastBits goes through all ends: bits behind the last byte must be noughts.
func TestLastBits(t *testing.T) {
	l := alphabet()
	for first := range 64 {
		for second := range 64 {
			head := string([]byte{l[first], l[second]})
			if one := head + "=="; second%16 != 0 {
				refused(t, one)
				refused(t, "AAAA"+one)
			} else {
				decoded(t, one, []byte{byte(first<<2 | second>>4)})
			}
			for third := range 64 {
				two := head + l[third:third+1] + "="
				if b, ok := Decode(two); ok != (third%4 == 0) || !ok && len(b) != 0 || ok && Encode(b) != two {
					t.Fatalf("Decode(%q): %X, %v", two, b, ok)
				}
			}
		}
	}
	for _, s := range []string{"YR==", "YS==", "YU==", "YY==", "Yf==", "YWJ=", "YWK=", "YWL=", "AB==", "AAB=", "YWJjYR==", "YR= =", " Y R = = "} {
		refused(t, s)
	}
}

// TestShortTexts goes through all short texts of some characters.
func TestShortTexts(t *testing.T) {
	for _, c := range []struct {
		of  string
		max int
	}{
		{"AQBg/= -", 6}, {"AB=", 10}, {"Ag=\n", 8}, {alphabet() + "=", 3},
	} {
		var walk func(s string)
		walk = func(s string) {
			b, ok := Decode(s)
			want, wanted := other(s)
			if ok != wanted || !bytes.Equal(b, want) {
				t.Fatalf("Decode(%q): %X, %v", s, b, ok)
			}
			if ok && words(b) != withoutBlanks(s) {
				t.Fatalf("Decode(%q): %X, which has other letters", s, b)
			}
			if len(s) == c.max {
				return
			}
			for i := range len(c.of) {
				walk(s + c.of[i:i+1])
			}
		}
		walk("")
	}
}

// TestChangedTexts changes long texts at one place, so that much is right ahead of what isn't.
func TestChangedTexts(t *testing.T) {
	for _, n := range []int{30, 31, 32} {
		s := words(some(n))
		for i := range len(s) {
			for c := range 256 {
				changed := s[:i] + string([]byte{byte(c)}) + s[i+1:]
				b, ok := Decode(changed)
				want, wanted := other(changed)
				if ok != wanted || !bytes.Equal(b, want) {
					t.Fatalf("Decode(%q): %X, %v", changed, b, ok)
				}
			}
			for _, cut := range []string{s[:i], s[i+1:], s[:i] + s[i+1:]} {
				b, ok := Decode(cut)
				want, wanted := other(cut)
				if ok != wanted || !bytes.Equal(b, want) {
					t.Fatalf("Decode(%q): %X, %v", cut, b, ok)
				}
			}
		}
	}
}

// TestMemory is R3: parts, their spare room and their list stay as they are, and answers are nobody else's.
func TestMemory(t *testing.T) {
	room := some(300)
	before := bytes.Clone(room)
	parts := [][]byte{room[:70:90], room[90:91], room[91:250], nil, nil}
	first := Encode(parts[:3]...)
	if !bytes.Equal(room, before) {
		t.Error("the bytes are changed")
	}
	if len(parts[0]) != 70 || &parts[0][0] != &room[0] || len(parts[1]) != 1 || len(parts[2]) != 159 || parts[3] != nil || parts[4] != nil {
		t.Error("the list is changed")
	}
	kept := strings.Clone(first)
	room[0] ^= 1
	if first != kept || Encode(parts[:3]...) == first {
		t.Error("the letters hang on the bytes behind the call")
	}
	s := words(some(100))
	one, _ := Decode(s)
	two, _ := Decode(s)
	clear(one[:cap(one)])
	if !bytes.Equal(two, some(100)) {
		t.Error("two answers share their bytes")
	}
	decoded(t, s, some(100))
	if s != words(some(100)) {
		t.Error("the text is changed")
	}
}
