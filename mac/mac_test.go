package mac

import (
	"bytes"
	"crypto/hmac"
	"crypto/sha256"
	"encoding/hex"
	"runtime/debug"
	"slices"
	"strings"
	"syscall"
	"testing"

	"apostille/sha"
)

// some answers n bytes among which no two blocks are alike.
func some(n int) []byte {
	b := make([]byte, n)
	x := uint32(1)
	for i := range b {
		x = x*1664525 + 1013904223
		b[i] = byte(x >> 24)
	}
	return b
}

// other answers the HMAC as another program works it out.
func other(key []byte, parts ...[]byte) [32]byte {
	h := hmac.New(sha256.New, key)
	for _, part := range parts {
		h.Write(part)
	}
	return [32]byte(h.Sum(nil))
}

// TestKnown holds Of against the chapter's example and those of RFC 4231 (without the one that is cut short).
func TestKnown(t *testing.T) {
	for _, c := range []struct{ key, of, want string }{
		{"key", "The quick brown fox jumps over the lazy dog", "f7bc83f430538424b13298e6aa6fb143ef4d59a14946175997479dbc2d1a3cd8"},
		{"", "", "b613679a0814d9ec772f95d778c35fc5ff1697c493715653c6c712144292c5ad"},
		{strings.Repeat("\x0b", 20), "Hi There", "b0344c61d8db38535ca8afceaf0bf12b881dc200c9833da726e9376c2e32cff7"},
		{"Jefe", "what do ya want for nothing?", "5bdcc146bf60754e6a042426089575c75a003f089d2739839dec58b964ec3843"},
		{strings.Repeat("\xaa", 20), strings.Repeat("\xdd", 50), "773ea91e36800e46854db8ebd09181a72959098b3ef8c122d9635514ced565fe"},
		{"\x01\x02\x03\x04\x05\x06\x07\x08\x09\x0a\x0b\x0c\x0d\x0e\x0f\x10\x11\x12\x13\x14\x15\x16\x17\x18\x19", strings.Repeat("\xcd", 50), "82558a389a443c0ea4cc819899f2083a85f0faa3e578f8077a2e3ff46729665b"},
		{strings.Repeat("\xaa", 131), "Test Using Larger Than Block-Size Key - Hash Key First", "60e431591ee0b67f0d8a26aacbf5b77f8e0bc6213728c5140546040f0ee37f54"},
		{strings.Repeat("\xaa", 131), "This is a test using a larger than block-size key and a larger than block-size data. The key needs to be hashed before being used by the HMAC algorithm.", "9b09ffa71b942fcb27635fbcd5b0e944bfdc63644f0713938a7f51535c3a35e2"},
	} {
		x := Of([]byte(c.key), []byte(c.of))
		if hex.EncodeToString(x[:]) != c.want {
			t.Errorf("%.20q by %.20q: %x", c.of, c.key, x)
		}
	}
}

// TestByTheWords works the HMAC out as the chapter says it, by layer 2 alone.
func TestByTheWords(t *testing.T) {
	of := []byte("what is signed")
	for _, n := range []int{0, 1, 63, 64, 65, 128} {
		key := some(n)
		begun := key
		if n > 64 {
			sum := sha.Sum(key)
			begun = sum[:]
		}
		var inner, outer []byte
		for i := range 64 {
			b := byte(0)
			if i < len(begun) {
				b = begun[i]
			}
			inner = append(inner, b^0x36)
			outer = append(outer, b^0x5c)
		}
		within := sha.Sum(inner, of)
		if Of(key, of) != sha.Sum(outer, within[:]) {
			t.Errorf("a key of %d bytes", n)
		}
	}
}

func TestEachLength(t *testing.T) {
	keys, all := some(300), some(400)[100:]
	for k := range 200 {
		for n := range 200 {
			if x := Of(keys[:k], all[:n]); x != other(keys[:k], all[:n]) {
				t.Fatalf("%d bytes by a key of %d: %x", n, k, x)
			}
		}
	}
	for _, n := range []int{1000, 1 << 16, 1<<20 + 1} {
		b := some(n)
		if Of(b, b) != other(b, b) || Of(b[:64], b) != other(b[:64], b) || Of(b, b[:1]) != other(b, b[:1]) {
			t.Errorf("%d bytes", n)
		}
	}
}

// TestKeyEdges is where a key stops standing for itself.
func TestKeyEdges(t *testing.T) {
	of := []byte("a")
	for _, key := range [][]byte{some(65), make([]byte, 65), some(66), some(1000)} {
		sum := sha.Sum(key)
		if Of(key, of) != Of(sum[:], of) {
			t.Errorf("a key of %d bytes isn't its sum", len(key))
		}
	}
	for _, key := range [][]byte{some(63), some(64), some(33), make([]byte, 64)} {
		sum := sha.Sum(key)
		if Of(key, of) == Of(sum[:], of) {
			t.Errorf("a key of %d bytes is its sum", len(key))
		}
	}
	for n := range 65 {
		key := some(n)
		if Of(key, of) != Of(append(key, make([]byte, 64-n)...), of) {
			t.Errorf("no noughts behind a key of %d bytes", n)
		}
	}
	if Of(some(64), of) == Of(append(some(64), 0), of) {
		t.Error("a nought behind 64 bytes is not seen")
	}
}

func TestNothing(t *testing.T) {
	for _, key := range [][]byte{nil, {}, make([]byte, 1), make([]byte, 64)} {
		for _, parts := range [][][]byte{nil, {}, {nil}, {{}}, {nil, {}, nil}} {
			if x := Of(key, parts...); x != other(nil) {
				t.Errorf("%#v by %#v: %x", parts, key, x)
			}
		}
	}
	of, key := []byte("a"), []byte("b")
	if Of(nil, of) != other(nil, of) || Of([]byte{}, of) != other(nil, of) {
		t.Error("no key")
	}
	if Of(key) != other(key) || Of(key, nil) != other(key) || Of(key, []byte{}) != other(key) {
		t.Error("no bytes")
	}
}

// TestEachBit would see a bit of the key or of the bytes that is overlooked.
func TestEachBit(t *testing.T) {
	of := some(70)
	for _, n := range []int{63, 64, 65, 130} {
		key := some(n)
		seen := map[[32]byte]int{Of(key, of): -1}
		for bit := range 8 * (n + len(of)) {
			both := append(bytes.Clone(key), of...)
			both[bit/8] ^= 1 << (bit % 8)
			x := Of(both[:n], both[n:])
			if x != other(both[:n], both[n:]) {
				t.Errorf("a key of %d bytes, bit %d: %x", n, bit, x)
			}
			if before, ok := seen[x]; ok {
				t.Errorf("a key of %d bytes, bits %d and %d: the same sum", n, bit, before)
			}
			seen[x] = bit
		}
	}
}

func TestParts(t *testing.T) {
	for _, k := range []int{0, 3, 63, 64, 65} {
		key := some(k)
		for _, n := range []int{0, 1, 55, 56, 63, 64, 65, 128} {
			b := some(n)
			want := other(key, b)
			for i := 0; i <= n; i++ {
				if Of(key, b[:i], b[i:]) != want || Of(key, nil, b[:i], []byte{}, b[i:], nil) != want {
					t.Fatalf("%d bytes by a key of %d, parted at %d", n, k, i)
				}
				if i%2 == 0 && Of(key, b[:i/2], b[i/2:i], b[i:]) != want {
					t.Fatalf("%d bytes by a key of %d, parted at %d and %d", n, k, i/2, i)
				}
			}
		}
	}
	b := some(2000)
	want := other(b[:10], b)
	for size := 1; size <= 130; size++ {
		if Of(b[:10], slices.Collect(slices.Chunk(b, size))...) != want {
			t.Errorf("parts of %d bytes", size)
		}
	}
}

// TestWhichIsWhich would see parts in another order, and a key that is taken for a part.
func TestWhichIsWhich(t *testing.T) {
	a, b, c := []byte("left"), []byte("right"), []byte("key")
	if Of(c, a, b) != other(c, []byte("leftright")) || Of(c, b, a) != other(c, []byte("rightleft")) || Of(c, a, a) != other(c, []byte("leftleft")) {
		t.Error("the order of parts")
	}
	if Of(a, b) == Of(b, a) || Of(a, b) == Of(nil, a, b) || Of([]byte("ab"), []byte("c")) == Of([]byte("a"), []byte("bc")) {
		t.Error("a key is no part")
	}
}

// TestMemory is R3: the key, the parts, their spare room and their list stay as they are, and nothing is kept.
func TestMemory(t *testing.T) {
	for _, k := range []int{0, 10, 64, 65, 100} {
		room, keyRoom := some(300), some(200)
		before, keyBefore := bytes.Clone(room), bytes.Clone(keyRoom)
		key := keyRoom[:k]
		parts := [][]byte{room[:70:90], room[90:91], room[91:250], nil, nil}
		first := Of(key, parts[:3]...)
		if !bytes.Equal(room, before) || !bytes.Equal(keyRoom, keyBefore) {
			t.Errorf("a key of %d bytes: bytes are changed", k)
		}
		if len(parts[0]) != 70 || &parts[0][0] != &room[0] || len(parts[1]) != 1 || len(parts[2]) != 159 || parts[3] != nil || parts[4] != nil {
			t.Errorf("a key of %d bytes: the list is changed", k)
		}
		if Of(key, parts[:3]...) != first {
			t.Errorf("a key of %d bytes: another sum of the same", k)
		}
		keyRoom[0] ^= 1
		if k > 0 && Of(key, parts[:3]...) == first {
			t.Errorf("a key of %d bytes is kept", k)
		}
		keyRoom[0] ^= 1
		room[0] ^= 1
		if Of(key, parts[:3]...) == first {
			t.Errorf("a key of %d bytes: a part is kept", k)
		}
	}
}

// TestOneMemory hands the same bytes in as key and parts.
func TestOneMemory(t *testing.T) {
	b := some(100)
	if Of(b[:64], b, b[:64], b[32:]) != other(b[:64], b, b[:64], b[32:]) {
		t.Error("bytes that are shared")
	}
	if !Equal(b, b) || !Equal(b[:1], b[:1]) || Equal(b[:50], b[1:51]) {
		t.Error("bytes that are shared are compared")
	}
}

func TestEqual(t *testing.T) {
	for _, c := range []struct {
		a, b string
		want bool
	}{
		{"", "", true},
		{"a", "a", true},
		{"ab", "ab", true},
		{"ab", "ac", false},
		{"ab", "bb", false},
		{"ab", "ba", false},
		{"ab", "abc", false},
		{"bc", "abc", false},
		{"", "a", false},
		{"", "\x00", false},
		{"\x00", "\x00\x00", false},
		{"ab", "ab\x00", false},
		{"\x01\x01", "\x02\x02", false},
		{"\x00\x00", "\xff\x01", false},
		{"\x00", "\x80", false},
		{"aa", "AA", false},
	} {
		if Equal([]byte(c.a), []byte(c.b)) != c.want || Equal([]byte(c.b), []byte(c.a)) != c.want {
			t.Errorf("%q and %q", c.a, c.b)
		}
	}
	if !Equal(nil, nil) || !Equal(nil, []byte{}) || !Equal([]byte{}, nil) || Equal(nil, []byte{0}) || Equal([]byte{0}, nil) {
		t.Error("no bytes")
	}
}

// TestEqualEachLength has noughts alone: the lengths are all that differs.
func TestEqualEachLength(t *testing.T) {
	noughts := make([]byte, 70000)
	sizes := []int{0, 1, 2, 31, 32, 33, 63, 64, 65, 128, 255, 256, 257, 512, 65535, 65536, 65537}
	for _, a := range sizes {
		for _, b := range sizes {
			if Equal(noughts[:a], noughts[:b]) != (a == b) {
				t.Errorf("%d and %d bytes", a, b)
			}
		}
	}
}

func TestEqualEachBit(t *testing.T) {
	for _, n := range []int{1, 2, 31, 32, 33, 100} {
		a := some(n)
		for bit := range 8 * n {
			b := bytes.Clone(a)
			b[bit/8] ^= 1 << (bit % 8)
			if Equal(a, b) || Equal(b, a) {
				t.Errorf("%d bytes, bit %d", n, bit)
			}
			b[bit/8] = a[bit/8]
			if !Equal(a, b) || !Equal(b, a) {
				t.Errorf("%d bytes that are the same", n)
			}
		}
	}
}

// TestEqualTwoBytes would see differences that take each other away.
func TestEqualTwoBytes(t *testing.T) {
	for x := range 256 {
		for y := range 256 {
			if Equal([]byte{0, 0}, []byte{byte(x), byte(y)}) != (x == 0 && y == 0) {
				t.Errorf("%d and %d", x, y)
			}
		}
	}
}

func TestEqualMemory(t *testing.T) {
	a, b := some(90), some(90)
	before := bytes.Clone(a)
	if !Equal(a[:40:60], b[:40]) || Equal(a[:40], b[:41]) {
		t.Error("spare room is compared")
	}
	if !bytes.Equal(a, before) || !bytes.Equal(b, before) {
		t.Error("bytes are changed")
	}
}

// beforeWall answers n bytes, the last of which no program may look at.
func beforeWall(t *testing.T, n int) []byte {
	t.Helper()
	page := syscall.Getpagesize()
	room, err := syscall.Mmap(-1, 0, 2*page, syscall.PROT_READ|syscall.PROT_WRITE, syscall.MAP_ANON|syscall.MAP_PRIVATE)
	if err != nil {
		t.Fatal(err)
	}
	t.Cleanup(func() { syscall.Munmap(room) })
	if err := syscall.Mprotect(room[page:], syscall.PROT_NONE); err != nil {
		t.Fatal(err)
	}
	return room[page-n+1 : page+1]
}

// looksBehind tells whether equal comes as far as the byte that nobody may look at.
func looksBehind(t *testing.T, equal func(a, b []byte) bool, a, b []byte) (faulted bool) {
	t.Helper()
	defer debug.SetPanicOnFault(debug.SetPanicOnFault(true))
	defer func() { faulted = recover() != nil }()
	// The answer is asked for: the compiler may leave out work for one that isn't.
	if equal(a, b) && len(a) != len(b) {
		t.Error("equal, but for the lengths")
	}
	return false
}

// TestEqualLooksAtAll sees by the fault at the last byte that no difference ahead of it ends the work.
func TestEqualLooksAtAll(t *testing.T) {
	walled := beforeWall(t, 32)
	looks := func(a, b []byte) bool { return looksBehind(t, Equal, a, b) }
	for i := range 31 {
		b := make([]byte, 32)
		b[i] = 1
		if !looks(walled, b) || !looks(b, walled) {
			t.Errorf("a difference at byte %d ends it", i)
		}
	}
	for _, n := range []int{0, 1, 31, 32, 33, 64} {
		b := make([]byte, n)
		if !looks(walled, b) || !looks(b, walled) {
			t.Errorf("a length of %d ends it", n)
		}
	}
	if looks(walled[:31], make([]byte, 31)) || looks(walled[:31], make([]byte, 64)) {
		t.Error("it looks at more than there is")
	}
}

// TestWall holds the means of the test above against one that ends early, and one that doesn't.
func TestWall(t *testing.T) {
	walled := beforeWall(t, 32)
	first := make([]byte, 32)
	first[0] = 1
	early := func(a, b []byte) bool { return a[0] == b[0] && a[31] == b[31] }
	late := func(a, b []byte) bool { return a[31] == b[31] && a[0] == b[0] }
	if looksBehind(t, early, walled, first) || !looksBehind(t, late, walled, first) {
		t.Error("the wall isn't felt")
	}
}
