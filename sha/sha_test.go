package sha

import (
	"bytes"
	"crypto/sha256"
	"encoding/hex"
	"math/big"
	"slices"
	"strings"
	"testing"
)

// some answers n bytes among which no two blocks are alike.
func some(n int) []byte {
	b := make([]byte, n)
	x := uint32(1)
	for i := range b {
		x = x*1664525 + 1013904223
		b[i] = byte(x >> 24)
	}
	return b
}

func primes(n int) []int64 {
	var l []int64
	for p := int64(2); len(l) < n; p++ {
		if !slices.ContainsFunc(l, func(q int64) bool { return p%q == 0 }) {
			l = append(l, p)
		}
	}
	return l
}

// behindPoint answers the first 32 bits behind the point of the root of p of that degree.
func behindPoint(p int64, degree int) uint32 {
	power := big.NewInt(int64(degree))
	goal := new(big.Int).Lsh(big.NewInt(p), uint(32*degree))
	root := new(big.Int)
	for bit := 40; bit >= 0; bit-- {
		next := new(big.Int).SetBit(root, bit, 1)
		if new(big.Int).Exp(next, power, nil).Cmp(goal) <= 0 {
			root = next
		}
	}
	return uint32(root.Uint64())
}

// TestRoots holds the tables against what the chapter says of them.
func TestRoots(t *testing.T) {
	for i, p := range primes(64) {
		if i < 8 && start[i] != behindPoint(p, 2) {
			t.Errorf("H(%d): %08x", i, start[i])
		}
		if steps[i] != behindPoint(p, 3) {
			t.Errorf("K(%d): %08x", i, steps[i])
		}
	}
}

func TestKnownSums(t *testing.T) {
	for _, c := range []struct{ of, want string }{
		{"", "e3b0c44298fc1c149afbf4c8996fb92427ae41e4649b934ca495991b7852b855"},
		{"abc", "ba7816bf8f01cfea414140de5dae2223b00361a396177a9cb410ff61f20015ad"},
		{"\xbd", "68325720aabd7c82f30f554b313d0570c95accbb7dc4b5aae11204c08ffe732b"},
		{"abcdbcdecdefdefgefghfghighijhijkijkljklmklmnlmnomnopnopq", "248d6a61d20638b8e5c026930c3e6039a33ce45964ff2167f6ecedd419db06c1"},
		{"abcdefghbcdefghicdefghijdefghijkefghijklfghijklmghijklmnhijklmnoijklmnopjklmnopqklmnopqrlmnopqrsmnopqrstnopqrstu", "cf5b16a778af8380036ce59e7b0492370b249b11e8f07a51afac45037afee9d1"},
		{strings.Repeat("\x00", 55), "02779466cdec163811d078815c633f21901413081449002f24aa3e80f0b88ef7"},
		{strings.Repeat("\x00", 56), "d4817aa5497628e7c77e6b606107042bbba3130888c5f47a375e6179be789fbb"},
		{strings.Repeat("\x00", 64), "f5a5fd42d16a20302798ef6ed309979b43003d2320d9f0e8ea9831a92759fb4b"},
		{strings.Repeat("a", 1000000), "cdc76e5c9914fb9281a1c7e284d73e67f1809a48a497200e046d39ccc7112cd0"},
	} {
		if x := Hex(Sum([]byte(c.of))); x != c.want {
			t.Errorf("%.20q of %d bytes: %s", c.of, len(c.of), x)
		}
	}
}

func TestNothing(t *testing.T) {
	want := sha256.Sum256(nil)
	for _, parts := range [][][]byte{nil, {}, {nil}, {{}}, {nil, {}, nil}} {
		if Sum(parts...) != want {
			t.Errorf("%#v", parts)
		}
	}
}

// TestEachLength goes through all places at which the last block may end.
func TestEachLength(t *testing.T) {
	b := some(1 << 17)
	check := func(n int) {
		if x := Sum(b[:n]); x != sha256.Sum256(b[:n]) {
			t.Errorf("%d bytes: %s", n, Hex(x))
		}
	}
	for n := range 1025 {
		check(n)
	}
	for _, n := range []int{1 << 12, 1 << 13, 1 << 16, 1 << 17} {
		for k := n - 66; k <= n; k++ {
			check(k)
		}
	}
}

// TestEachBit would see a bit that is overlooked.
func TestEachBit(t *testing.T) {
	b := some(130)
	seen := map[[32]byte]int{Sum(b): -1}
	for bit := range 8 * len(b) {
		c := bytes.Clone(b)
		c[bit/8] ^= 1 << (bit % 8)
		x := Sum(c)
		if x != sha256.Sum256(c) {
			t.Errorf("bit %d: %s", bit, Hex(x))
		}
		if other, ok := seen[x]; ok {
			t.Errorf("bits %d and %d: the same sum", bit, other)
		}
		seen[x] = bit
	}
}

func TestTwoAndThreeParts(t *testing.T) {
	all := some(200)
	for _, n := range []int{0, 1, 2, 55, 56, 57, 63, 64, 65, 119, 120, 127, 128, 129, 200} {
		b := all[:n]
		want := sha256.Sum256(b)
		for i := 0; i <= n; i++ {
			if Sum(b[:i], b[i:]) != want || Sum(nil, b[:i], []byte{}, b[i:], nil) != want {
				t.Fatalf("%d bytes parted at %d", n, i)
			}
			for k := i; k <= n; k++ {
				if Sum(b[:i], b[i:k], b[k:]) != want {
					t.Fatalf("%d bytes parted at %d and %d", n, i, k)
				}
			}
		}
	}
}

func TestManyParts(t *testing.T) {
	b := some(5000)
	want := sha256.Sum256(b)
	for size := 1; size <= 200; size++ {
		if Sum(slices.Collect(slices.Chunk(b, size))...) != want {
			t.Errorf("parts of %d bytes", size)
		}
	}
	var growing [][]byte
	for rest, n := b, 0; len(rest) > 0; n++ {
		n = min(n, len(rest))
		growing, rest = append(growing, rest[:n]), rest[n:]
	}
	if Sum(growing...) != want {
		t.Error("parts of growing lengths")
	}
}

func TestOrderOfParts(t *testing.T) {
	a, b := []byte("left"), []byte("right")
	if Sum(a, b) != sha256.Sum256([]byte("leftright")) || Sum(b, a) != sha256.Sum256([]byte("rightleft")) {
		t.Error("order")
	}
	if Sum(a, a) != sha256.Sum256([]byte("leftleft")) {
		t.Error("one part twice")
	}
}

// TestLongLength has more bits than 32 bits can count.
func TestLongLength(t *testing.T) {
	if testing.Short() {
		t.Skip("long")
	}
	const times = 513
	b := some(1 << 20)
	parts := make([][]byte, times)
	whole := sha256.New()
	for i := range parts {
		parts[i] = b
		whole.Write(b)
	}
	if x := Sum(parts...); Hex(x) != hex.EncodeToString(whole.Sum(nil)) {
		t.Error(Hex(x))
	}
}

func TestHex(t *testing.T) {
	if x := Hex([32]byte{}); x != strings.Repeat("0", 64) {
		t.Error(x)
	}
	for place := range 32 {
		for value := range 256 {
			var sum [32]byte
			for i := range sum {
				sum[i] = byte(i * 37)
			}
			sum[place] = byte(value)
			if x := Hex(sum); x != hex.EncodeToString(sum[:]) {
				t.Fatalf("%v: %s", sum, x)
			}
		}
	}
}

// TestMemory is R3: parts, their spare room and their list stay as they are.
func TestMemory(t *testing.T) {
	room := some(300)
	before := bytes.Clone(room)
	parts := [][]byte{room[:70:90], room[90:91], room[91:250], nil, nil}
	first := Sum(parts[:3]...)
	if !bytes.Equal(room, before) {
		t.Error("the bytes are changed")
	}
	if len(parts[0]) != 70 || len(parts[1]) != 1 || len(parts[2]) != 159 || parts[3] != nil || parts[4] != nil {
		t.Error("the list is changed")
	}
	if Sum(parts[:3]...) != first {
		t.Error("another sum of the same parts")
	}
	room[0] ^= 1
	if Sum(parts[:3]...) == first {
		t.Error("a sum that was kept")
	}
}
