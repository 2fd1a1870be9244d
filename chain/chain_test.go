package chain_test

import (
	"bytes"
	"crypto/sha256"
	"encoding/hex"
	"fmt"
	"math"
	"math/bits"
	"math/rand"
	"slices"
	"testing"

	"assayer/api"
	"assayer/chain"
	"assayer/sha"
	"assayer/tree"
)

func toldAll(t *testing.T, l ...string) []api.Hash {
	t.Helper()
	var out []api.Hash
	for _, digits := range l {
		b, err := hex.DecodeString(digits)
		if err != nil || len(b) != len(api.Hash{}) {
			t.Fatalf("%q is no hash", digits)
		}
		out = append(out, api.Hash(b))
	}
	return out
}

// leaf and node are the hashes of an entry and of two hashes, by the library.
func leaf(b []byte) api.Hash { return sha256.Sum256(slices.Concat([]byte{0}, b)) }

func node(a, b api.Hash) api.Hash { return sha256.Sum256(slices.Concat([]byte{1}, a[:], b[:])) }

// levels is all hashes of a tree, built from below: two are made one, and one
// that is left alone goes up as it is. So it parts nothing, as the program does.
func levels(l [][]byte) [][]api.Hash {
	var row []api.Hash
	for _, entry := range l {
		row = append(row, leaf(entry))
	}
	out := [][]api.Hash{row}
	for len(row) > 1 {
		var up []api.Hash
		for two := range slices.Chunk(row, 2) {
			if len(two) == 2 {
				up = append(up, node(two[0], two[1]))
			} else {
				up = append(up, two[0])
			}
		}
		out = append(out, up)
		row = up
	}
	return out
}

func isPowerOfTwo(m uint64) bool { return bits.OnesCount64(m) == 1 }

// plainProof is read off the levels: the greatest full part that ends where the
// first m end (unless it is all of them), and what stands beside it, upwards.
func plainProof(all [][]api.Hash, m int) []api.Hash {
	if m == len(all[0]) {
		return nil
	}
	full := bits.TrailingZeros(uint(m))
	i := m>>full - 1
	var out []api.Hash
	if !isPowerOfTwo(uint64(m)) {
		out = append(out, all[full][i])
	}
	for _, row := range all[full:] {
		if beside := i ^ 1; beside < len(row) {
			out = append(out, row[beside])
		}
		i /= 2
	}
	return out
}

// climb makes both roots upwards, by the numbers' bits (RFC 9162, 2.1.4.2), and
// takes as many hashes out of next as it needs. m is below n, and 1 at least.
func climb(m, n uint64, next func() api.Hash) (old, now api.Hash, path []api.Hash) {
	take := func() api.Hash {
		h := next()
		path = append(path, h)
		return h
	}
	i, last := m-1, n-1
	for i%2 == 1 {
		i, last = i/2, last/2
	}
	if isPowerOfTwo(m) {
		old = next()
	} else {
		old = take()
	}
	for now = old; last > 0; i, last = i/2, last/2 {
		if i%2 == 1 || i == last {
			h := take()
			old, now = node(h, old), node(h, now)
			for i%2 == 0 && i > 0 {
				i, last = i/2, last/2
			}
		} else {
			now = node(now, take())
		}
	}
	return old, now, path
}

func randomHash(d *rand.Rand) api.Hash {
	var h api.Hash
	d.Read(h[:])
	return h
}

// entriesOf is so many entries that are all different.
func entriesOf(n int) [][]byte {
	l := make([][]byte, n)
	for i := range l {
		l[i] = fmt.Appendf(nil, "entry %d", i)
	}
	return l
}

func keyOf(l [][]byte) api.Key { return api.Key{Size: uint64(len(l)), Root: tree.Root(l)} }

func proofOf(t *testing.T, l [][]byte, m int) []api.Hash {
	t.Helper()
	path, err := chain.Proof(l, m)
	if err != api.OK {
		t.Fatalf("%d among %d: %v", m, len(l), err)
	}
	return path
}

func expect(t *testing.T, what string, old, now api.Key, path []api.Hash, want api.Errno) {
	t.Helper()
	if err := chain.Verify(old, now, path); err != want {
		t.Errorf("%d in %d, %s: %v, want %v", old.Size, now.Size, what, err, want)
	}
}

// otherBit is a hash with one bit changed.
func otherBit(h api.Hash, bit int) api.Hash {
	h[bit/8] ^= 1 << (bit % 8)
	return h
}

// known is the eight entries that other programs test their trees with.
var known = [][]byte{
	{}, {0}, {0x10}, []byte(" !"), []byte("01"), []byte("@ABC"), []byte("PQRSTUVW"), []byte("`abcdefghijklmno"),
}

// twoSizes is pairs about which proofs behave otherwise: the first is 1 to the
// second, and both are greater than any list, most of them.
func twoSizes() [][2]uint64 {
	d := rand.New(rand.NewSource(1))
	var sizes []uint64
	for _, n := range []int{0, 1, 2, 3, 4, 5, 7, 8, 16, 31, 32, 33, 48, 61, 62, 63} {
		two := uint64(1) << n
		sizes = append(sizes, two-1, two, two+1)
	}
	sizes = append(sizes, math.MaxUint64, math.MaxUint64-1)
	var out [][2]uint64
	add := func(m, n uint64) {
		if m >= 1 && m <= n {
			out = append(out, [2]uint64{m, n})
		}
	}
	for _, n := range sizes {
		for _, m := range sizes {
			add(m, n)
		}
		k := tree.Split(n)
		for _, m := range []uint64{3, n - 1, n - 2, n / 2, n / 3, k - 1, k, k + 1, d.Uint64() % (n | 1)} {
			add(m, n)
		}
	}
	for range 2000 {
		n := d.Uint64() >> d.Intn(64)
		add(d.Uint64()%(n|1), n)
	}
	return out
}

// P4.1

func TestProofOfKnownEntries(t *testing.T) {
	for _, c := range []struct {
		m, n int
		want []string
	}{
		{1, 1, nil},
		{8, 8, nil},
		{1, 8, []string{
			"96a296d224f285c67bee93c30f8a309157f0daa35dc5b87e410b78630a09cfc7",
			"5f083f0a1a33ca076a95279832580db3e0ef4584bdff1f54c8a360f50de3031e",
			"6b47aaf29ee3c2af9af889bc1fb9254dabd31177f16232dd6aab035ca39bf6e4",
		}},
		{6, 8, []string{
			"0ebc5d3437fbe2db158b9f126a1d118e308181031d0a949f8dededebc558ef6a",
			"ca854ea128ed050b41b35ffc1b87b8eb2bde461e9e3b5596ece6b9d5975a0ae0",
			"d37ee418976dd95753c1c73862b9398fa2a2cf9b4ff0fdfe8b30cd95209614b7",
		}},
		{2, 5, []string{
			"5f083f0a1a33ca076a95279832580db3e0ef4584bdff1f54c8a360f50de3031e",
			"bc1a0643b12e4d2d7c77918f44e0f4f79a838b6cf9ec5b5c283e1f4d88599e6b",
		}},
		{6, 7, []string{
			"0ebc5d3437fbe2db158b9f126a1d118e308181031d0a949f8dededebc558ef6a",
			"b08693ec2e721597130641e8211e7eedccb4c26413963eee6c1e2ed16ffb1a5f",
			"d37ee418976dd95753c1c73862b9398fa2a2cf9b4ff0fdfe8b30cd95209614b7",
		}},
		{4, 8, []string{
			"6b47aaf29ee3c2af9af889bc1fb9254dabd31177f16232dd6aab035ca39bf6e4",
		}},
	} {
		got, err := chain.Proof(known[:c.n], c.m)
		if err != api.OK || !slices.Equal(got, toldAll(t, c.want...)) {
			t.Errorf("%d among %d: %x, %v", c.m, c.n, got, err)
		}
	}
}

// The proofs that RFC 6962 (2.1.3) works out, among seven entries.
func TestProofOfThatDocument(t *testing.T) {
	l := entriesOf(7)
	a, b, c, d, j := leaf(l[0]), leaf(l[1]), leaf(l[2]), leaf(l[3]), leaf(l[6])
	g, h, i := node(a, b), node(c, d), node(leaf(l[4]), leaf(l[5]))
	k := node(g, h)
	low := node(i, j)
	for _, s := range []struct {
		m    int
		want []api.Hash
	}{
		{3, []api.Hash{c, d, g, low}},
		{4, []api.Hash{low}},
		{6, []api.Hash{i, j, k}},
		{7, nil},
	} {
		if got, err := chain.Proof(l, s.m); err != api.OK || !slices.Equal(got, s.want) {
			t.Errorf("%d among 7: %x, %v", s.m, got, err)
		}
	}
}

func TestProofOfEachSize(t *testing.T) {
	l := entriesOf(70)
	for n := 1; n <= len(l); n++ {
		all := levels(l[:n])
		for m := 1; m <= n; m++ {
			got, err := chain.Proof(l[:n], m)
			if want := plainProof(all, m); err != api.OK || !slices.Equal(got, want) {
				t.Fatalf("%d among %d: %x, %v, want %x", m, n, got, err, want)
			}
		}
	}
}

func TestProofAmongMany(t *testing.T) {
	l := entriesOf(5000)
	all := levels(l)
	for _, m := range []int{1, 2, 3, 2047, 2048, 4095, 4096, 4097, 4998, 4999, 5000} {
		got, err := chain.Proof(l, m)
		if want := plainProof(all, m); err != api.OK || !slices.Equal(got, want) {
			t.Errorf("%d: %x, %v, want %x", m, got, err, want)
		}
	}
}

func TestProofOfNoSuchSize(t *testing.T) {
	for _, n := range []int{0, 1, 2, 3, 8, 9} {
		l := entriesOf(n)
		for _, m := range []int{0, -1, -2, math.MinInt, n + 1, n + 2, math.MaxInt} {
			if path, err := chain.Proof(l, m); err != api.ErrRange || len(path) != 0 {
				t.Errorf("%d among %d: %x, %v", m, n, path, err)
			}
		}
	}
	if path, err := chain.Proof(nil, 0); err != api.ErrRange || len(path) != 0 {
		t.Errorf("0 among none: %x, %v", path, err)
	}
}

func TestProofTakesANilEntryForAnEmptyOne(t *testing.T) {
	a, b := proofOf(t, [][]byte{nil, {}, nil}, 1), proofOf(t, [][]byte{{}, nil, {}}, 1)
	if !slices.Equal(a, b) {
		t.Errorf("%x, and %x", a, b)
	}
}

func TestProofIsInNewMemory(t *testing.T) {
	l := entriesOf(11)
	first := proofOf(t, l, 6)
	want := slices.Clone(first)
	clear(first[:cap(first)])
	if !slices.Equal(proofOf(t, l, 6), want) {
		t.Error("who changes a proof changes the next one")
	}
}

func TestProofNeitherChangesNorKeepsEntries(t *testing.T) {
	l := entriesOf(11)
	path := proofOf(t, l, 6)
	for i, entry := range entriesOf(11) {
		if !bytes.Equal(l[i], entry) {
			t.Errorf("entry %d was changed: %q", i, l[i])
		}
	}
	before := slices.Clone(path)
	l[5][0] ^= 1
	l[0] = nil
	if !slices.Equal(path, before) || !slices.Equal(proofOf(t, l, 6), plainProof(levels(l), 6)) {
		t.Error("entries were kept")
	}
}

func TestLong(t *testing.T) {
	for _, c := range []struct {
		m, n uint64
		want int
	}{
		{3, 7, 4}, {4, 7, 1}, {6, 7, 3}, {1, 2, 1}, {1, 3, 2}, {2, 3, 1}, {3, 4, 3}, {1, 8, 3}, {5, 8, 4}, {7, 8, 4},
		{1, 1, 0}, {2, 2, 0}, {7, 7, 0}, {1 << 63, 1 << 63, 0}, {math.MaxUint64, math.MaxUint64, 0},
		{1, 1 << 63, 63}, {1, 1<<63 + 1, 64}, {1, math.MaxUint64, 64}, {3, math.MaxUint64, 65}, {1 << 63, math.MaxUint64, 1},
		{math.MaxUint64 - 1, math.MaxUint64, 64},
	} {
		if got := chain.Long(c.m, c.n); got != c.want {
			t.Errorf("of %d, %d: %d, want %d", c.m, c.n, got, c.want)
		}
	}
}

func TestLongOfSizesWithoutAProof(t *testing.T) {
	for _, c := range [][2]uint64{
		{0, 0}, {0, 1}, {0, 2}, {0, 7}, {0, math.MaxUint64}, {1, 0}, {2, 1}, {8, 7}, {math.MaxUint64, 0},
		{math.MaxUint64, math.MaxUint64 - 1}, {math.MaxUint64, 1 << 63}, {1<<63 + 1, 1 << 63},
	} {
		if got := chain.Long(c[0], c[1]); got != 0 {
			t.Errorf("of %d, %d: %d, want 0", c[0], c[1], got)
		}
	}
}

func TestLongIsHowManyHashesAProofHas(t *testing.T) {
	l := entriesOf(70)
	for n := 1; n <= len(l); n++ {
		for m := 1; m <= n; m++ {
			if got, want := chain.Long(uint64(m), uint64(n)), len(proofOf(t, l[:n], m)); got != want {
				t.Errorf("of %d, %d: %d, want %d", m, n, got, want)
			}
		}
	}
}

func TestLongOfGreatSizes(t *testing.T) {
	for _, c := range twoSizes() {
		want := 0
		if c[0] < c[1] {
			_, _, path := climb(c[0], c[1], func() api.Hash { return api.Hash{} })
			want = len(path)
		}
		if got := chain.Long(c[0], c[1]); got != want {
			t.Errorf("of %d, %d: %d, want %d", c[0], c[1], got, want)
		}
	}
}

// P4.2

// Random hashes, of as many as the bits ask for, make two roots that are
// verified: sizes that no list has.
func TestVerifyOfGreatSizes(t *testing.T) {
	d := rand.New(rand.NewSource(2))
	for _, c := range twoSizes() {
		old, now := api.Key{Size: c[0]}, api.Key{Size: c[1]}
		var path []api.Hash
		if c[0] < c[1] {
			old.Root, now.Root, path = climb(c[0], c[1], func() api.Hash { return randomHash(d) })
		} else {
			old.Root = randomHash(d)
			now.Root = old.Root
		}
		expect(t, "both roots", old, now, path, api.OK)
		other := old
		other.Root = otherBit(old.Root, d.Intn(256))
		expect(t, "another old root", other, now, path, api.ErrProof)
		other = now
		other.Root = otherBit(now.Root, d.Intn(256))
		expect(t, "another new root", old, other, path, api.ErrProof)
	}
}

func TestVerifyOfOneSize(t *testing.T) {
	for _, size := range []uint64{1, 2, 3, 4, 7, 8, 1 << 63, math.MaxUint64} {
		a, b := api.Key{Size: size, Root: leaf([]byte("a"))}, api.Key{Size: size, Root: leaf([]byte("b"))}
		expect(t, "itself", a, a, nil, api.OK)
		expect(t, "itself, by an empty path", a, a, []api.Hash{}, api.OK)
		expect(t, "two roots", a, b, nil, api.ErrProof)
		expect(t, "a hash too many", a, a, []api.Hash{a.Root}, api.ErrProof)
		expect(t, "two roots, by the new one", a, b, []api.Hash{b.Root}, api.ErrProof)
	}
}

func TestVerifyOfSizesWithoutAProof(t *testing.T) {
	l := entriesOf(9)
	root, path := tree.Root(l), proofOf(t, l, 5)
	for _, c := range [][2]uint64{
		{0, 0}, {0, 1}, {0, 9}, {0, math.MaxUint64}, {1, 0}, {9, 5}, {10, 9}, {math.MaxUint64, 9}, {math.MaxUint64, math.MaxUint64 - 1},
	} {
		old, now := api.Key{Size: c[0], Root: root}, api.Key{Size: c[1], Root: root}
		expect(t, "no path", old, now, nil, api.ErrRange)
		expect(t, "a path", old, now, path, api.ErrRange)
		expect(t, "a path that is too long", old, now, make([]api.Hash, 100), api.ErrRange)
	}
	// Nothing has a root as well, but that a tree goes on from it needs no proof.
	expect(t, "nothing", keyOf(nil), keyOf(l), nil, api.ErrRange)
	expect(t, "nothing in nothing", keyOf(nil), keyOf(nil), nil, api.ErrRange)
	// An honest proof of 5 in 9 is none of 9 in 5.
	expect(t, "the wrong way round", keyOf(l), keyOf(l[:5]), path, api.ErrRange)
}

func TestVerifyWithTooFewOrTooManyHashes(t *testing.T) {
	l := entriesOf(20)
	for n := 1; n <= len(l); n++ {
		now := keyOf(l[:n])
		for m := 1; m <= n; m++ {
			old, path := keyOf(l[:m]), proofOf(t, l[:n], m)
			expect(t, "one more behind", old, now, append(slices.Clone(path), api.Hash{}), api.ErrProof)
			expect(t, "one more ahead", old, now, slices.Concat([]api.Hash{old.Root}, path), api.ErrProof)
			expect(t, "a thousand", old, now, make([]api.Hash, 1000), api.ErrProof)
			for k := range path {
				expect(t, "the first ones", old, now, path[:k], api.ErrProof)
				expect(t, "the last ones", old, now, path[k+1:], api.ErrProof)
				expect(t, "all but one", old, now, slices.Delete(slices.Clone(path), k, k+1), api.ErrProof)
			}
		}
	}
}

// A path that makes a root above the new one, from hashes that are right, but
// one too many, or that stops below it, proves nothing.
func TestVerifyOfPathsOfAnotherHeight(t *testing.T) {
	l := entriesOf(8)
	h := leaf([]byte("above"))
	above := api.Key{Size: 8, Root: node(tree.Root(l), h)}
	path := proofOf(t, l, 3)
	expect(t, "a path that ends above", keyOf(l[:3]), above, append(slices.Clone(path), h), api.ErrProof)
	expect(t, "a path that ends below", keyOf(l[:3]), api.Key{Size: 16, Root: tree.Root(l)}, path, api.ErrProof)
	above.Size = 16
	expect(t, "a path of the right height", keyOf(l[:3]), above, append(slices.Clone(path), h), api.OK)
}

func TestVerifyHangsOnEachBit(t *testing.T) {
	l := entriesOf(13)
	for n := 1; n <= len(l); n++ {
		now := keyOf(l[:n])
		for m := 1; m <= n; m++ {
			old, path := keyOf(l[:m]), proofOf(t, l[:n], m)
			for bit := range 256 {
				other := old
				other.Root = otherBit(old.Root, bit)
				expect(t, "an old root with another bit", other, now, path, api.ErrProof)
				other = now
				other.Root = otherBit(now.Root, bit)
				expect(t, "a new root with another bit", old, other, path, api.ErrProof)
				if len(path) > 0 {
					twisted := slices.Clone(path)
					k := bit % len(path)
					twisted[k] = otherBit(twisted[k], bit)
					expect(t, "a hash with another bit", old, now, twisted, api.ErrProof)
				}
			}
			if m < n {
				expect(t, "both roots changed", api.Key{Size: old.Size, Root: now.Root}, api.Key{Size: now.Size, Root: old.Root}, path, api.ErrProof)
			}
			for k := 1; k < len(path); k++ {
				twisted := slices.Clone(path)
				twisted[k], twisted[k-1] = twisted[k-1], twisted[k]
				expect(t, "two hashes that changed places", old, now, twisted, api.ErrProof)
			}
		}
	}
}

// What makes one of both roots only isn't enough.
func TestVerifyNeedsBothRoots(t *testing.T) {
	l, other := entriesOf(7), entriesOf(7)
	other[1] = []byte("another")
	path, otherPath := proofOf(t, l, 3), proofOf(t, other, 3)
	expect(t, "the old one alone", keyOf(l[:3]), keyOf(other), path, api.ErrProof)
	expect(t, "the new one alone", keyOf(other[:3]), keyOf(l), path, api.ErrProof)
	expect(t, "neither", keyOf(other[:3]), keyOf(other), path, api.ErrProof)
	expect(t, "both, of others", keyOf(other[:3]), keyOf(other), otherPath, api.OK)
	// Of 4 the old root is taken as it is, and only the new one is made.
	expect(t, "an old whole of others", keyOf(other[:4]), keyOf(l), proofOf(t, l, 4), api.ErrProof)
}

func TestVerifyMakesRootsOfNodes(t *testing.T) {
	a, b, c := randomHash(rand.New(rand.NewSource(3))), leaf([]byte("b")), leaf([]byte("c"))
	expect(t, "the whole", api.Key{Size: 1, Root: a}, api.Key{Size: 2, Root: sha.Node(a, b)}, []api.Hash{b}, api.OK)
	expect(t, "the wrong side", api.Key{Size: 1, Root: a}, api.Key{Size: 2, Root: sha.Node(b, a)}, []api.Hash{b}, api.ErrProof)
	expect(t, "without the whole", api.Key{Size: 3, Root: sha.Node(c, a)}, api.Key{Size: 4, Root: sha.Node(c, sha.Node(a, b))}, []api.Hash{a, b, c}, api.OK)
	expect(t, "without the whole, the wrong side", api.Key{Size: 3, Root: sha.Node(a, c)}, api.Key{Size: 4, Root: sha.Node(c, sha.Node(a, b))}, []api.Hash{a, b, c}, api.ErrProof)
}

func TestVerifyChangesNothingHandedIn(t *testing.T) {
	l := entriesOf(11)
	path := proofOf(t, l, 7)
	room := append(slices.Clone(path), api.Hash{1}, api.Hash{2})
	before := slices.Clone(room)
	for range 2 {
		expect(t, "room behind the path", keyOf(l[:7]), keyOf(l), room[:len(path)], api.OK)
	}
	if !slices.Equal(room, before) {
		t.Error("what was handed in was changed")
	}
}

// P4.3

func TestProofIsVerified(t *testing.T) {
	l := entriesOf(70)
	l[3], l[17], l[69] = nil, []byte{}, l[68]
	keys := []api.Key{keyOf(nil)}
	for n := 1; n <= len(l); n++ {
		keys = append(keys, keyOf(l[:n]))
		for m := 1; m <= n; m++ {
			expect(t, "its proof", keys[m], keys[n], proofOf(t, l[:n], m), api.OK)
		}
	}
}

func TestRandomProofsAreVerified(t *testing.T) {
	d := rand.New(rand.NewSource(4))
	for range 100 {
		l := make([][]byte, 1+d.Intn(400))
		for i := range l {
			l[i] = make([]byte, d.Intn(4))
			d.Read(l[i])
		}
		m := 1 + d.Intn(len(l))
		expect(t, "its proof", keyOf(l[:m]), keyOf(l), proofOf(t, l, m), api.OK)
	}
}

// A proof of sizes is verified for just these sizes, as long as roots differ.
func TestAProofIsOfItsOwnSizes(t *testing.T) {
	l := entriesOf(12)
	for n := 1; n <= len(l); n++ {
		for m := 1; m <= n; m++ {
			path := proofOf(t, l[:n], m)
			for b := 1; b <= len(l); b++ {
				for a := 1; a <= b; a++ {
					err := chain.Verify(keyOf(l[:a]), keyOf(l[:b]), path)
					if own := a == m && b == n || a == b && m == n; own != (err == api.OK) || !own && err != api.ErrProof {
						t.Errorf("%d in %d, by the proof of %d in %d: %v", a, b, m, n, err)
					}
				}
			}
		}
	}
}

// A log that changes, drops or slips in an old entry has no proof among all
// those that it can tell of either row.
func TestWhatDoesntGoOnIsNotVerified(t *testing.T) {
	for n := 2; n <= 10; n++ {
		for m := 1; m <= n; m++ {
			l := entriesOf(n)
			old := keyOf(l[:m])
			for at := range m {
				changed := slices.Clone(l)
				changed[at] = []byte("another")
				dropped := slices.Concat(l[:at], l[at+1:], [][]byte{[]byte("one more")})
				slipped := slices.Concat(l[:at], [][]byte{[]byte("one more")}, l[at:n-1])
				for _, other := range [][][]byte{changed, dropped, slipped} {
					for first := 1; first <= n; first++ {
						expect(t, "the honest proof", old, keyOf(other), proofOf(t, l, first), api.ErrProof)
						expect(t, "the other's proof", old, keyOf(other), proofOf(t, other, first), api.ErrProof)
					}
				}
			}
		}
	}
}
