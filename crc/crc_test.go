package crc_test

import (
	"bytes"
	"hash/crc32"
	"math/rand"
	"slices"
	"testing"

	"assayer/crc"
)

// plain is the sum as the document's words have it, a bit at a time.
func plain(l ...[]byte) uint32 {
	x := uint32(4294967295)
	for _, c := range slices.Concat(l...) {
		x ^= uint32(c)
		for range 8 {
			was := x & 1
			x >>= 1
			if was == 1 {
				x ^= 3988292384
			}
		}
	}
	return x ^ 4294967295
}

func randomBytes(d *rand.Rand, n int) []byte {
	b := make([]byte, n)
	d.Read(b)
	return b
}

// ascending is n bytes 0, 1, 2 and so on.
func ascending(n int) []byte {
	b := make([]byte, n)
	for i := range b {
		b[i] = byte(i)
	}
	return b
}

// expect holds the sum of rows against the document's words, and against the
// library's sum.
func expect(t *testing.T, name string, l ...[]byte) {
	t.Helper()
	got := crc.Of(l...)
	if want := plain(l...); got != want {
		t.Errorf("%s: %d, want %d", name, got, want)
	}
	if want := crc32.ChecksumIEEE(slices.Concat(l...)); got != want {
		t.Errorf("%s: %d, the library has %d", name, got, want)
	}
}

// P10.1

func TestOfKnownBytes(t *testing.T) {
	descending := ascending(32)
	slices.Reverse(descending)
	for _, c := range []struct {
		name string
		b    []byte
		want uint32
	}{
		{"the document's example", []byte("123456789"), 3421780262},
		{"a", []byte("a"), 0xe8b7be43},
		{"abc", []byte("abc"), 0x352441c2},
		{"a sentence", []byte("The quick brown fox jumps over the lazy dog"), 0x414fa339},
		{"a nought", []byte{0}, 0xd202ef8d},
		{"a 255", []byte{255}, 0xff000000},
		{"four noughts", make([]byte, 4), 0x2144df1c},
		{"four 255s", bytes.Repeat([]byte{255}, 4), 0xffffffff},
		{"32 noughts", make([]byte, 32), 0x190a55ad},
		{"32 255s", bytes.Repeat([]byte{255}, 32), 0xff6cab0b},
		{"32 bytes upward", ascending(32), 0x91267e8a},
		{"32 bytes downward", descending, 0x9ab0ef72},
	} {
		if got := crc.Of(c.b); got != c.want {
			t.Errorf("%s: %#x, want %#x", c.name, got, c.want)
		}
	}
}

func TestOfNothing(t *testing.T) {
	for name, l := range map[string][][]byte{
		"no rows":          nil,
		"an empty list":    {},
		"a nil row":        {nil},
		"an empty row":     {{}},
		"many empty rows":  {nil, {}, nil, {}},
		"a row without it": {ascending(9)[:0]},
	} {
		if got := crc.Of(l...); got != 0 {
			t.Errorf("%s: %d, want 0", name, got)
		}
	}
}

func TestOfEachByte(t *testing.T) {
	for c := range 256 {
		expect(t, "a byte", []byte{byte(c)})
		for other := range 256 {
			expect(t, "two bytes", []byte{byte(c), byte(other)})
		}
	}
}

func TestOfEachLength(t *testing.T) {
	d := rand.New(rand.NewSource(1))
	for n := range 600 {
		expect(t, "noughts", make([]byte, n))
		expect(t, "255s", bytes.Repeat([]byte{255}, n))
		expect(t, "any", randomBytes(d, n))
	}
	for _, n := range []int{65535, 65536, 65537, 1 << 20, 1<<20 + 1} {
		expect(t, "many", randomBytes(d, n))
	}
}

// Noughts count wherever they are: at the beginning, and at the end.
func TestOfNoughtsThatAreMore(t *testing.T) {
	text := []byte("123456789")
	seen := map[uint32]int{}
	for n := range 300 {
		ahead, behind := make([]byte, n), make([]byte, n)
		expect(t, "noughts ahead", ahead, text)
		expect(t, "noughts behind", text, behind)
		sum := crc.Of(ahead)
		if first, ok := seen[sum]; ok {
			t.Errorf("%d and %d noughts have one sum", first, n)
		}
		seen[sum] = n
	}
}

// Of several rows the sum is that of one.
func TestOfRowsPartedAnywhere(t *testing.T) {
	b := randomBytes(rand.New(rand.NewSource(2)), 60)
	want := plain(b)
	for i := 0; i <= len(b); i++ {
		for k := i; k <= len(b); k++ {
			if got := crc.Of(b[:i], b[i:k], b[k:]); got != want {
				t.Fatalf("parted at %d and %d: %d, want %d", i, k, got, want)
			}
		}
	}
}

func TestOfRows(t *testing.T) {
	d := rand.New(rand.NewSource(3))
	for range 300 {
		rows := make([][]byte, d.Intn(30))
		for i := range rows {
			switch d.Intn(4) {
			case 0: // a nil row
			case 1:
				rows[i] = []byte{}
			default:
				rows[i] = randomBytes(d, d.Intn(50))
			}
		}
		expect(t, "rows", rows...)
	}
	single := make([][]byte, 5000)
	for i := range single {
		single[i] = []byte{byte(i)}
	}
	expect(t, "many rows of a byte", single...)
}

func TestOfHangsOnTheOrder(t *testing.T) {
	a, b := []byte("a row"), []byte("another one")
	expect(t, "a row ahead", a, b)
	expect(t, "a row behind", b, a)
	if crc.Of(a, b) == crc.Of(b, a) {
		t.Error("the rows' order counts for nothing")
	}
	if crc.Of([]byte("ab")) == crc.Of([]byte("ba")) {
		t.Error("the bytes' order counts for nothing")
	}
}

// Rule 3: what is handed in is not changed, and not kept.
func TestOfLeavesRowsAsTheyAre(t *testing.T) {
	room := randomBytes(rand.New(rand.NewSource(4)), 100)
	before := bytes.Clone(room)
	rows := [][]byte{room[:40], nil, room[40:90]}
	want := plain(rows...)
	if got := crc.Of(rows...); got != want {
		t.Errorf("%d, want %d", got, want)
	}
	if !bytes.Equal(room, before) {
		t.Error("bytes were changed")
	}
	if len(rows) != 3 || len(rows[0]) != 40 || rows[1] != nil || len(rows[2]) != 50 {
		t.Error("rows were changed")
	}
	room[0] ^= 1
	expect(t, "behind a change", rows...)
	if crc.Of(rows...) == want {
		t.Error("rows were kept")
	}
}

// Rule 4: what one call was given is nothing to another one.
func TestOfKeepsNothing(t *testing.T) {
	d := rand.New(rand.NewSource(5))
	for n := range 100 {
		crc.Of(randomBytes(d, n))
		if got := crc.Of([]byte("123456789")); got != 3421780262 {
			t.Errorf("behind %d bytes: %d", n, got)
		}
	}
}

// P10.2

// turned is bytes with some bits turned: those of pattern, from its lowest one
// on, which are turned from bit first on (the lowest of each byte first).
func turned(b []byte, first int, pattern uint64) []byte {
	out := bytes.Clone(b)
	for k := range 64 {
		if pattern>>k&1 == 1 {
			at := first + k
			out[at/8] ^= 1 << (at % 8)
		}
	}
	return out
}

// expectApart holds the sum of bytes against that of others.
func expectApart(t *testing.T, b []byte, sum uint32, first int, pattern uint64) {
	t.Helper()
	if crc.Of(turned(b, first, pattern)) == sum {
		t.Errorf("%d bytes, bits %#x turned from bit %d on: one sum", len(b), pattern, first)
	}
}

func TestOfFewBitsTurnedAnywhere(t *testing.T) {
	d := rand.New(rand.NewSource(6))
	for _, n := range []int{1, 2, 3, 4, 5, 40} {
		b := randomBytes(d, n)
		sum := crc.Of(b)
		for first := range 8 * n {
			most := min(8, 8*n-first)
			for pattern := uint64(1); pattern < 1<<most; pattern++ {
				expectApart(t, b, sum, first, pattern)
			}
		}
	}
}

func TestOfUpTo32BitsTurned(t *testing.T) {
	d := rand.New(rand.NewSource(7))
	for _, n := range []int{4, 5, 9, 64, 300} {
		b := randomBytes(d, n)
		sum := crc.Of(b)
		for first := 0; first+32 <= 8*n; first++ {
			for width := 2; width <= 32; width++ {
				ends := uint64(1)<<(width-1) | 1
				expectApart(t, b, sum, first, ends)
				expectApart(t, b, sum, first, uint64(1)<<width-1)
				expectApart(t, b, sum, first, ends|d.Uint64()%(1<<width))
			}
		}
	}
}

// All differences of 32 bits at once: which bits of the sum turn hangs on which
// bits are turned alone, so that it is enough that no bits of those that a
// single one turns undo one another.
func TestOfAnyOf32BitsTurned(t *testing.T) {
	d := rand.New(rand.NewSource(8))
	for _, n := range []int{4, 5, 8, 33, 256} {
		b := randomBytes(d, n)
		for first := 0; first+32 <= 8*n; first++ {
			var turns []uint32
			for k := range 32 {
				turns = append(turns, crc.Of(b)^crc.Of(turned(b, first, 1<<k)))
			}
			if !independent(turns) {
				t.Fatalf("%d bytes: of 32 bits from bit %d on, some undo one another", n, first)
			}
			pattern := d.Uint64() % (1 << 32)
			if got, want := crc.Of(b)^crc.Of(turned(b, first, pattern)), xorOf(turns, pattern); got != want {
				t.Fatalf("%d bytes, bits %#x from bit %d on: they turn %#x, want %#x", n, pattern, first, got, want)
			}
		}
	}
}

// independent tells if no choice of numbers comes to 0 by xor.
func independent(numbers []uint32) bool {
	var byTop [32]uint32
	for _, x := range numbers {
		for bit := 31; bit >= 0 && x != 0; bit-- {
			if x>>bit&1 == 0 {
				continue
			}
			if byTop[bit] == 0 {
				byTop[bit] = x
				break
			}
			x ^= byTop[bit]
		}
		if x == 0 {
			return false
		}
	}
	return true
}

// xorOf is the xor of those numbers whose bits in pattern are 1.
func xorOf(numbers []uint32, pattern uint64) uint32 {
	var sum uint32
	for k, x := range numbers {
		if pattern>>k&1 == 1 {
			sum ^= x
		}
	}
	return sum
}

// 32 is the edge: of 33 bits on end there is just one difference that leaves the
// sum as it was, that of the polynomial's own bits.
func TestOfThePolynomialsBitsTurned(t *testing.T) {
	const own = 3988292384<<1 | 1
	d := rand.New(rand.NewSource(9))
	for _, n := range []int{5, 6, 64} {
		b := randomBytes(d, n)
		sum := crc.Of(b)
		for first := 0; first+33 <= 8*n; first++ {
			if got := crc.Of(turned(b, first, own)); got != sum {
				t.Errorf("%d bytes, from bit %d on: %d, want %d", n, first, got, sum)
			}
			for k := range 33 {
				expectApart(t, b, sum, first, own^1<<k)
			}
		}
	}
}
