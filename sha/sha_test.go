package sha_test

import (
	"bytes"
	"crypto/sha256"
	"encoding/hex"
	"math/rand"
	"slices"
	"strings"
	"testing"

	"assayer/api"
	"assayer/sha"
)

// told is the hash that digits of 16 tell, with or without blanks.
func told(t *testing.T, digits string) api.Hash {
	t.Helper()
	b, err := hex.DecodeString(strings.ReplaceAll(digits, " ", ""))
	if err != nil || len(b) != len(api.Hash{}) {
		t.Fatalf("%q is no hash", digits)
	}
	return api.Hash(b)
}

// plain is the library's hash of rows, one behind the other: another program's
// answer to hold ours against.
func plain(l ...[]byte) api.Hash { return sha256.Sum256(slices.Concat(l...)) }

func randomBytes(d *rand.Rand, n int) []byte {
	b := make([]byte, n)
	d.Read(b)
	return b
}

// P2.1

func TestOfKnownBytes(t *testing.T) {
	for _, c := range []struct {
		name string
		b    []byte
		want string
	}{
		{"nothing", nil, "e3b0c442 98fc1c14 9afbf4c8 996fb924 27ae41e4 649b934c a495991b 7852b855"},
		{"no bytes", []byte{}, "e3b0c442 98fc1c14 9afbf4c8 996fb924 27ae41e4 649b934c a495991b 7852b855"},
		{"abc", []byte("abc"), "ba7816bf 8f01cfea 414140de 5dae2223 b00361a3 96177a9c b410ff61 f20015ad"},
		{"56 bytes", []byte("abcdbcdecdefdefgefghfghighijhijkijkljklmklmnlmnomnopnopq"),
			"248d6a61 d20638b8 e5c02693 0c3e6039 a33ce459 64ff2167 f6ecedd4 19db06c1"},
		{"112 bytes", []byte("abcdefghbcdefghicdefghijdefghijkefghijklfghijklmghijklmnhijklmnoijklmnopjklmnopqklmnopqrlmnopqrsmnopqrstnopqrstu"),
			"cf5b16a7 78af8380 036ce59e 7b049237 0b249b11 e8f07a51 afac4503 7afee9d1"},
		{"a million a", bytes.Repeat([]byte("a"), 1000000),
			"cdc76e5c 9914fb92 81a1c7e2 84d73e67 f1809a48 a497200e 046d39cc c7112cd0"},
	} {
		if got, want := sha.Of(c.b), told(t, c.want); got != want {
			t.Errorf("%s: %x, want %x", c.name, got, want)
		}
	}
}

func TestOfNoRows(t *testing.T) {
	want := plain()
	for name, got := range map[string]api.Hash{
		"no row":       sha.Of(),
		"nil rows":     sha.Of([][]byte(nil)...),
		"a nil row":    sha.Of(nil),
		"an empty row": sha.Of([]byte{}),
		"many of them": sha.Of(nil, []byte{}, nil),
	} {
		if got != want {
			t.Errorf("%s: %x, want %x", name, got, want)
		}
	}
}

// All lengths about some blocks' ends: where how many bits there are still has
// room in the last block, and where it has none.
func TestOfEachLength(t *testing.T) {
	d := rand.New(rand.NewSource(1))
	for n := range 300 {
		for name, b := range map[string][]byte{
			"noughts": make([]byte, n),
			"255s":    bytes.Repeat([]byte{255}, n),
			"128s":    bytes.Repeat([]byte{128}, n),
			"any":     randomBytes(d, n),
		} {
			if got, want := sha.Of(b), plain(b); got != want {
				t.Errorf("%d bytes, %s: %x, want %x", n, name, got, want)
			}
		}
	}
}

// How many bits there are: told in more than one, two and three bytes.
func TestOfManyBytes(t *testing.T) {
	d := rand.New(rand.NewSource(2))
	for _, n := range []int{8191, 8192, 8193, 65535, 65536, 1<<21 - 1, 1 << 21, 1<<21 + 1, 3000000} {
		b := randomBytes(d, n)
		if got, want := sha.Of(b), plain(b); got != want {
			t.Errorf("%d bytes: %x, want %x", n, got, want)
		}
	}
}

// How many bits there are: told in more than four bytes. The row is the same
// one each time, so that it needs little memory.
func TestOfMoreThan512MiB(t *testing.T) {
	row := randomBytes(rand.New(rand.NewSource(9)), 1<<20)
	rows := slices.Repeat([][]byte{row}, 1<<9+1)
	want := sha256.New()
	for _, row := range rows {
		want.Write(row)
	}
	if got := sha.Of(rows...); got != api.Hash(want.Sum(nil)) {
		t.Errorf("%x, want %x", got, want.Sum(nil))
	}
}

func TestOfTwoRowsPartedAnywhere(t *testing.T) {
	b := randomBytes(rand.New(rand.NewSource(3)), 200)
	for n := 0; n <= len(b); n++ {
		want := plain(b[:n])
		for i := 0; i <= n; i++ {
			if got := sha.Of(b[:i], b[i:n]); got != want {
				t.Fatalf("%d bytes, parted at %d: %x, want %x", n, i, got, want)
			}
		}
	}
}

func TestOfRows(t *testing.T) {
	d := rand.New(rand.NewSource(4))
	for round := range 300 {
		rows := make([][]byte, d.Intn(30))
		for i := range rows {
			switch d.Intn(4) {
			case 0: // a nil row
			case 1:
				rows[i] = []byte{}
			default:
				rows[i] = randomBytes(d, d.Intn(150))
			}
		}
		if got, want := sha.Of(rows...), plain(rows...); got != want {
			t.Fatalf("round %d, %d rows: %x, want %x", round, len(rows), got, want)
		}
	}
}

func TestOfHangsOnEachBitAndOnTheRows(t *testing.T) {
	b := []byte("some bytes, more than there is room for in one block, so that two are mixed in")
	first := sha.Of(b)
	for i := range 8 * len(b) {
		b[i/8] ^= 1 << (i % 8)
		if sha.Of(b) == first {
			t.Errorf("bit %d counts for nothing", i)
		}
		b[i/8] ^= 1 << (i % 8)
	}
	if sha.Of(b) != first {
		t.Error("the same bytes have two hashes")
	}
	if sha.Of([]byte("a"), []byte("b")) == sha.Of([]byte("b"), []byte("a")) {
		t.Error("the rows' order counts for nothing")
	}
}

// What one call was given is nothing to another one.
func TestOfKeepsNothing(t *testing.T) {
	want := plain([]byte("abc"))
	for _, n := range []int{0, 1, 55, 56, 64, 1000} {
		sha.Of(make([]byte, n))
		if got := sha.Of([]byte("abc")); got != want {
			t.Errorf("behind %d bytes: %x, want %x", n, got, want)
		}
	}
	b := []byte("abc")
	first := sha.Of(b)
	b[0] = 'x'
	if first != want || sha.Of(b) != plain([]byte("xbc")) {
		t.Error("bytes that were handed in were kept")
	}
}

func TestOfChangesNothingHandedIn(t *testing.T) {
	b := randomBytes(rand.New(rand.NewSource(5)), 300)
	before := bytes.Clone(b)
	rows := [][]byte{b[:70], b[70:70], nil, b[70:131]}
	sha.Of(rows...)
	sha.Of(b[:100])
	sha.Leaf(b[:100])
	if !bytes.Equal(b, before) {
		t.Error("bytes were changed")
	}
	if len(rows[0]) != 70 || len(rows[1]) != 0 || rows[2] != nil || len(rows[3]) != 61 {
		t.Error("rows were changed")
	}
}

// P2.2

func TestLeaf(t *testing.T) {
	d := rand.New(rand.NewSource(6))
	if got, want := sha.Leaf(nil), told(t, "6e340b9cffb37a989ca544e6bb780a2c78901d3fb33738768511a30617afa01d"); got != want {
		t.Errorf("of nothing: %x, want %x", got, want)
	}
	if sha.Leaf([]byte{}) != sha.Leaf(nil) {
		t.Error("nil bytes and no bytes have two hashes")
	}
	for _, n := range []int{0, 1, 31, 32, 54, 55, 56, 62, 63, 64, 65, 128, 1000} {
		b := randomBytes(d, n)
		if got, want := sha.Leaf(b), plain([]byte{0}, b); got != want {
			t.Errorf("of %d bytes: %x, want %x", n, got, want)
		}
	}
}

func TestNode(t *testing.T) {
	d := rand.New(rand.NewSource(7))
	for range 50 {
		a, b := api.Hash(randomBytes(d, 32)), api.Hash(randomBytes(d, 32))
		if got, want := sha.Node(a, b), plain([]byte{1}, a[:], b[:]); got != want {
			t.Errorf("of %x and %x: %x, want %x", a, b, got, want)
		}
		if sha.Node(a, b) == sha.Node(b, a) {
			t.Errorf("of %x and %x: the order counts for nothing", a, b)
		}
	}
	var none api.Hash
	if got, want := sha.Node(none, none), plain([]byte{1}, make([]byte, 64)); got != want {
		t.Errorf("of noughts: %x, want %x", got, want)
	}
}

// An entry that looks like two hashes has not the hash of these two.
func TestLeafIsNoNode(t *testing.T) {
	a, b := sha.Of([]byte("a")), sha.Of([]byte("b"))
	if sha.Leaf(slices.Concat(a[:], b[:])) == sha.Node(a, b) {
		t.Error("an entry has the hash of two hashes")
	}
}

func TestText(t *testing.T) {
	var rising, falling api.Hash
	for i := range rising {
		rising[i], falling[i] = byte(i), byte(255-i)
	}
	for _, c := range []struct {
		h    api.Hash
		want string
	}{
		{api.Hash{}, strings.Repeat("0", 64)},
		{api.Hash{0: 0x01, 1: 0x10, 31: 0xaf}, "0110" + strings.Repeat("0", 58) + "af"},
		{rising, "000102030405060708090a0b0c0d0e0f101112131415161718191a1b1c1d1e1f"},
		{falling, "fffefdfcfbfaf9f8f7f6f5f4f3f2f1f0efeeedecebeae9e8e7e6e5e4e3e2e1e0"},
		{sha.Of([]byte("abc")), "ba7816bf8f01cfea414140de5dae2223b00361a396177a9cb410ff61f20015ad"},
	} {
		if got := sha.Text(c.h); got != c.want {
			t.Errorf("%s, want %s", got, c.want)
		}
	}
	d := rand.New(rand.NewSource(8))
	for range 100 {
		h := api.Hash(randomBytes(d, 32))
		if got, want := sha.Text(h), hex.EncodeToString(h[:]); got != want {
			t.Errorf("%s, want %s", got, want)
		}
	}
}
