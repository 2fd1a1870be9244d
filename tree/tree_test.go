package tree_test

import (
	"bytes"
	"crypto/sha256"
	"encoding/hex"
	"fmt"
	"math"
	"math/rand"
	"slices"
	"testing"

	"assayer/api"
	"assayer/tree"
)

// told is the hash that digits of 16 tell.
func told(t *testing.T, digits string) api.Hash {
	t.Helper()
	b, err := hex.DecodeString(digits)
	if err != nil || len(b) != len(api.Hash{}) {
		t.Fatalf("%q is no hash", digits)
	}
	return api.Hash(b)
}

func toldAll(t *testing.T, l ...string) []api.Hash {
	t.Helper()
	var out []api.Hash
	for _, digits := range l {
		out = append(out, told(t, digits))
	}
	return out
}

// leaf and node are the hashes of an entry and of two hashes, by the library.
func leaf(b []byte) api.Hash { return sha256.Sum256(slices.Concat([]byte{0}, b)) }

func node(a, b api.Hash) api.Hash { return sha256.Sum256(slices.Concat([]byte{1}, a[:], b[:])) }

// levels is all hashes of a tree, built from below: two are made one, and one
// that is left alone goes up as it is. So it parts nothing, as the program does.
func levels(l [][]byte) [][]api.Hash {
	var row []api.Hash
	for _, entry := range l {
		row = append(row, leaf(entry))
	}
	out := [][]api.Hash{row}
	for len(row) > 1 {
		var up []api.Hash
		for two := range slices.Chunk(row, 2) {
			if len(two) == 2 {
				up = append(up, node(two[0], two[1]))
			} else {
				up = append(up, two[0])
			}
		}
		out = append(out, up)
		row = up
	}
	return out
}

// plainRoot and plainPath are read off the levels.
func plainRoot(l [][]byte) api.Hash {
	if len(l) == 0 {
		return sha256.Sum256(nil)
	}
	all := levels(l)
	return all[len(all)-1][0]
}

func plainPath(l [][]byte, i int) []api.Hash {
	var out []api.Hash
	for _, row := range levels(l) {
		if beside := i ^ 1; beside < len(row) {
			out = append(out, row[beside])
		}
		i /= 2
	}
	return out
}

// climb makes a root of an entry upwards, by the numbers' bits (RFC 9162,
// 2.1.3.2), and takes as many hashes out of next as it needs.
func climb(size, i uint64, entry []byte, next func() api.Hash) (api.Hash, []api.Hash) {
	var path []api.Hash
	root := leaf(entry)
	for last := size - 1; last > 0; i, last = i/2, last/2 {
		if i%2 == 0 && i == last {
			continue
		}
		h := next()
		path = append(path, h)
		if i%2 == 1 {
			root = node(h, root)
		} else {
			root = node(root, h)
		}
	}
	return root, path
}

func randomBytes(d *rand.Rand, n int) []byte {
	b := make([]byte, n)
	d.Read(b)
	return b
}

func randomHash(d *rand.Rand) api.Hash { return api.Hash(randomBytes(d, 32)) }

// entriesOf is so many entries that are all different.
func entriesOf(n int) [][]byte {
	l := make([][]byte, n)
	for i := range l {
		l[i] = fmt.Appendf(nil, "entry %d", i)
	}
	return l
}

func cloneAll(l [][]byte) [][]byte {
	out := make([][]byte, len(l))
	for i, b := range l {
		out[i] = bytes.Clone(b)
	}
	return out
}

// known is the eight entries that other programs test their trees with, and
// knownRoots the roots of the first ones of them.
var known = [][]byte{
	{}, {0}, {0x10}, []byte(" !"), []byte("01"), []byte("@ABC"), []byte("PQRSTUVW"), []byte("`abcdefghijklmno"),
}

var knownRoots = []string{
	"e3b0c44298fc1c149afbf4c8996fb92427ae41e4649b934ca495991b7852b855",
	"6e340b9cffb37a989ca544e6bb780a2c78901d3fb33738768511a30617afa01d",
	"fac54203e7cc696cf0dfcb42c92a1d9dbaf70ad9e621f4bd8d98662f00e3c125",
	"aeb6bcfe274b70a14fb067a5e5578264db0fa9b51af5e0ba159158f329e06e77",
	"d37ee418976dd95753c1c73862b9398fa2a2cf9b4ff0fdfe8b30cd95209614b7",
	"4e3bbb1f7b478dcfe71fb631631519a3bca12c9aefca1612bfce4c13a86264d4",
	"76e67dadbcdf1e10e1b74ddc608abd2f98dfb16fbce75277b5232a127f2087ef",
	"ddb89be403809e325750d3d263cd78929c2942b7942a34b77e122c9594a74c8c",
	"5dc9da79a70659a9ad559cb701ded9a2ab9d823aad2f4960cfe370eff4604328",
}

// edges is numbers about which sizes and places behave otherwise.
func edges() []uint64 {
	var out []uint64
	for n := range 64 {
		two := uint64(1) << n
		out = append(out, two-2, two-1, two, two+1)
	}
	return append(out, math.MaxUint64, math.MaxUint64-1, math.MaxUint64-2)
}

// P3.1

func TestSplit(t *testing.T) {
	for _, c := range []struct{ n, want uint64 }{
		{0, 0}, {1, 0}, {2, 1}, {3, 2}, {4, 2}, {5, 4}, {6, 4}, {7, 4}, {8, 4}, {9, 8}, {1000, 512}, {1024, 512}, {1025, 1024},
		{1<<32 - 1, 1 << 31}, {1 << 32, 1 << 31}, {1<<32 + 1, 1 << 32},
		{1<<63 - 1, 1 << 62}, {1 << 63, 1 << 62}, {1<<63 + 1, 1 << 63}, {math.MaxUint64, 1 << 63},
	} {
		if got := tree.Split(c.n); got != c.want {
			t.Errorf("of %d: %d, want %d", c.n, got, c.want)
		}
	}
}

// By what the words say of it: a power of two, below n, and none greater is.
func TestSplitIsTheGreatestPowerOfTwoBelow(t *testing.T) {
	d := rand.New(rand.NewSource(1))
	l := edges()
	for range 1000 {
		l = append(l, d.Uint64()>>d.Intn(64))
	}
	for _, n := range l {
		k := tree.Split(n)
		if n < 2 {
			if k != 0 {
				t.Errorf("of %d: %d", n, k)
			}
			continue
		}
		if k == 0 || k&(k-1) != 0 || k >= n || n-k > k {
			t.Errorf("of %d: %d", n, k)
		}
	}
}

func TestRootOfKnownEntries(t *testing.T) {
	for n, want := range knownRoots {
		if got := tree.Root(known[:n]); got != told(t, want) {
			t.Errorf("of %d: %x, want %s", n, got, want)
		}
	}
}

func TestRootOfNoneAndOne(t *testing.T) {
	nothing := api.Hash(sha256.Sum256(nil))
	if tree.Root(nil) != nothing || tree.Root([][]byte{}) != nothing {
		t.Error("no entries have another root than the hash of nothing")
	}
	for _, entry := range [][]byte{nil, {}, {0}, []byte("abc"), make([]byte, 1000)} {
		if got, want := tree.Root([][]byte{entry}), leaf(entry); got != want {
			t.Errorf("of %d bytes: %x, want %x", len(entry), got, want)
		}
	}
	if tree.Root([][]byte{nil, {}}) != tree.Root([][]byte{{}, nil}) {
		t.Error("a nil entry isn't an empty one")
	}
}

func TestRootOfEachSize(t *testing.T) {
	l := entriesOf(300)
	for n := range len(l) + 1 {
		if got, want := tree.Root(l[:n]), plainRoot(l[:n]); got != want {
			t.Fatalf("of %d: %x, want %x", n, got, want)
		}
	}
}

func TestRootOfMany(t *testing.T) {
	l := entriesOf(1<<16 + 1)
	for _, n := range []int{1<<16 - 1, 1 << 16, 1<<16 + 1, 50000} {
		if got, want := tree.Root(l[:n]), plainRoot(l[:n]); got != want {
			t.Errorf("of %d: %x, want %x", n, got, want)
		}
	}
}

func TestRootHangsOnEachEntryAndOnTheirOrder(t *testing.T) {
	for n := 1; n <= 20; n++ {
		l := entriesOf(n)
		root := tree.Root(l)
		for i := range l {
			l[i][0] ^= 1
			if tree.Root(l) == root {
				t.Errorf("of %d: entry %d counts for nothing", n, i)
			}
			l[i][0] ^= 1
			if i > 0 {
				l[i], l[i-1] = l[i-1], l[i]
				if tree.Root(l) == root {
					t.Errorf("of %d: the order of %d and the one ahead counts for nothing", n, i)
				}
				l[i], l[i-1] = l[i-1], l[i]
			}
		}
		if tree.Root(l) != root {
			t.Errorf("of %d: the same entries have two roots", n)
		}
	}
}

// An entry that looks like two hashes isn't a tree of two entries.
func TestRootOfAnEntryIsNoRootOfTwo(t *testing.T) {
	a, b := leaf([]byte("a")), leaf([]byte("b"))
	if tree.Root([][]byte{slices.Concat(a[:], b[:])}) == tree.Root([][]byte{[]byte("a"), []byte("b")}) {
		t.Error("one entry has the root of two")
	}
}

func TestPathOfKnownEntries(t *testing.T) {
	for _, c := range []struct {
		n, i int
		want []string
	}{
		{1, 0, nil},
		{8, 0, []string{
			"96a296d224f285c67bee93c30f8a309157f0daa35dc5b87e410b78630a09cfc7",
			"5f083f0a1a33ca076a95279832580db3e0ef4584bdff1f54c8a360f50de3031e",
			"6b47aaf29ee3c2af9af889bc1fb9254dabd31177f16232dd6aab035ca39bf6e4",
		}},
		{8, 5, []string{
			"bc1a0643b12e4d2d7c77918f44e0f4f79a838b6cf9ec5b5c283e1f4d88599e6b",
			"ca854ea128ed050b41b35ffc1b87b8eb2bde461e9e3b5596ece6b9d5975a0ae0",
			"d37ee418976dd95753c1c73862b9398fa2a2cf9b4ff0fdfe8b30cd95209614b7",
		}},
		{3, 2, []string{
			"fac54203e7cc696cf0dfcb42c92a1d9dbaf70ad9e621f4bd8d98662f00e3c125",
		}},
		{5, 1, []string{
			"6e340b9cffb37a989ca544e6bb780a2c78901d3fb33738768511a30617afa01d",
			"5f083f0a1a33ca076a95279832580db3e0ef4584bdff1f54c8a360f50de3031e",
			"bc1a0643b12e4d2d7c77918f44e0f4f79a838b6cf9ec5b5c283e1f4d88599e6b",
		}},
	} {
		got, err := tree.Path(known[:c.n], c.i)
		if err != api.OK || !slices.Equal(got, toldAll(t, c.want...)) {
			t.Errorf("to %d among %d: %x, %v", c.i, c.n, got, err)
		}
	}
}

func TestPathToEachPlace(t *testing.T) {
	l := entriesOf(70)
	for n := range len(l) + 1 {
		for i := range n {
			got, err := tree.Path(l[:n], i)
			if want := plainPath(l[:n], i); err != api.OK || !slices.Equal(got, want) {
				t.Fatalf("to %d among %d: %x, %v, want %x", i, n, got, err, want)
			}
		}
	}
}

func TestPathAmongMany(t *testing.T) {
	l := entriesOf(5000)
	for _, i := range []int{0, 1, 2047, 4095, 4096, 4998, 4999} {
		got, err := tree.Path(l, i)
		if want := plainPath(l, i); err != api.OK || !slices.Equal(got, want) {
			t.Errorf("to %d: %x, %v, want %x", i, got, err, want)
		}
	}
}

func TestPathToNoPlace(t *testing.T) {
	for _, n := range []int{0, 1, 2, 3, 8, 9} {
		l := entriesOf(n)
		for _, i := range []int{-1, -2, math.MinInt, n, n + 1, math.MaxInt} {
			if path, err := tree.Path(l, i); err != api.ErrRange || len(path) != 0 {
				t.Errorf("to %d among %d: %x, %v", i, n, path, err)
			}
		}
	}
	if path, err := tree.Path(nil, 0); err != api.ErrRange || len(path) != 0 {
		t.Errorf("to 0 among none: %x, %v", path, err)
	}
}

func TestPathIsInNewMemory(t *testing.T) {
	l := entriesOf(11)
	first, _ := tree.Path(l, 6)
	want := slices.Clone(first)
	clear(first[:cap(first)])
	if again, err := tree.Path(l, 6); err != api.OK || !slices.Equal(again, want) {
		t.Error("who changes a path changes the next one")
	}
}

func TestEntriesAreNeitherChangedNorKept(t *testing.T) {
	l := entriesOf(11)
	before := cloneAll(l)
	root := tree.Root(l)
	path, _ := tree.Path(l, 4)
	tree.Verify(root, 11, 4, l[4], path)
	if !slices.EqualFunc(l, before, bytes.Equal) {
		t.Error("entries were changed")
	}
	kept := slices.Clone(path)
	l[5][0] ^= 1
	l[0] = nil
	if !slices.Equal(path, kept) || tree.Root(l) != plainRoot(l) {
		t.Error("entries were kept")
	}
}

// P3.2

// Random hashes, of as many as the bits ask for, make a root that is verified:
// sizes that no list has.
func TestVerifyOfGreatSizes(t *testing.T) {
	d := rand.New(rand.NewSource(2))
	for _, size := range edges() {
		for _, i := range []uint64{0, 1, size - 1, size - 2, size / 2, size / 3, tree.Split(size), tree.Split(size) - 1, d.Uint64() % (size | 1)} {
			if i >= size {
				continue
			}
			entry := randomBytes(d, d.Intn(5))
			root, path := climb(size, i, entry, func() api.Hash { return randomHash(d) })
			if err := tree.Verify(root, size, i, entry, path); err != api.OK {
				t.Fatalf("place %d of %d, %d hashes: %v", i, size, len(path), err)
			}
			root[d.Intn(32)] ^= 1 << d.Intn(8)
			if err := tree.Verify(root, size, i, entry, path); err != api.ErrProof {
				t.Fatalf("place %d of %d, another root: %v", i, size, err)
			}
		}
	}
}

func TestVerifyAtAPlaceThatThereIsnt(t *testing.T) {
	l := entriesOf(9)
	root := tree.Root(l)
	path, _ := tree.Path(l, 8)
	for _, c := range []struct{ size, i uint64 }{
		{0, 0}, {0, 1}, {1, 1}, {9, 9}, {9, 10}, {9, math.MaxUint64}, {math.MaxUint64, math.MaxUint64}, {1 << 63, 1 << 63}, {0, math.MaxUint64},
	} {
		for name, path := range map[string][]api.Hash{"a path": path, "none": nil, "too much": make([]api.Hash, 100)} {
			if err := tree.Verify(root, c.size, c.i, l[8], path); err != api.ErrRange {
				t.Errorf("place %d of %d, %s: %v", c.i, c.size, name, err)
			}
		}
	}
	// The root of nothing proves no entry.
	if err := tree.Verify(tree.Root(nil), 0, 0, nil, nil); err != api.ErrRange {
		t.Errorf("among none: %v", err)
	}
}

func TestVerifyWithTooFewOrTooManyHashes(t *testing.T) {
	for n := 1; n <= 20; n++ {
		l := entriesOf(n)
		root := tree.Root(l)
		for i := range l {
			path, _ := tree.Path(l, i)
			longer := append(slices.Clone(path), api.Hash{})
			if err := tree.Verify(root, uint64(n), uint64(i), l[i], longer); err != api.ErrProof {
				t.Errorf("place %d of %d, one more: %v", i, n, err)
			}
			if err := tree.Verify(root, uint64(n), uint64(i), l[i], make([]api.Hash, 1000)); err != api.ErrProof {
				t.Errorf("place %d of %d, a thousand: %v", i, n, err)
			}
			for k := range path {
				if err := tree.Verify(root, uint64(n), uint64(i), l[i], path[:k]); err != api.ErrProof {
					t.Errorf("place %d of %d, the first %d: %v", i, n, k, err)
				}
				if err := tree.Verify(root, uint64(n), uint64(i), l[i], slices.Delete(slices.Clone(path), k, k+1)); err != api.ErrProof {
					t.Errorf("place %d of %d, all but %d: %v", i, n, k, err)
				}
			}
		}
	}
}

// A path that climbs from the inside to the very root, but is too short to
// begin at an entry, or goes on above the root, proves nothing.
func TestVerifyOfPathsOfAnotherHeight(t *testing.T) {
	a, b := leaf([]byte("a")), leaf([]byte("b"))
	inside := slices.Concat([]byte{1}, a[:], b[:])
	root := tree.Root([][]byte{[]byte("a"), []byte("b"), []byte("c"), []byte("d")})
	beside := node(leaf([]byte("c")), leaf([]byte("d")))
	if err := tree.Verify(root, 2, 0, inside, []api.Hash{beside}); err != api.ErrProof {
		t.Errorf("two hashes pass for an entry: %v", err)
	}
	if err := tree.Verify(root, 4, 0, inside, []api.Hash{beside}); err != api.ErrProof {
		t.Errorf("a path begins above the entries: %v", err)
	}
	h := randomHash(rand.New(rand.NewSource(3)))
	above := node(root, h)
	path, _ := tree.Path([][]byte{[]byte("a"), []byte("b"), []byte("c"), []byte("d")}, 0)
	if err := tree.Verify(above, 4, 0, []byte("a"), append(path, h)); err != api.ErrProof {
		t.Errorf("a path ends above the root: %v", err)
	}
	if err := tree.Verify(above, 8, 0, []byte("a"), path); err != api.ErrProof {
		t.Errorf("a path ends below the root: %v", err)
	}
}

func TestVerifyHangsOnEachBit(t *testing.T) {
	d := rand.New(rand.NewSource(4))
	for _, n := range []int{1, 2, 3, 5, 8, 13} {
		l := entriesOf(n)
		root := tree.Root(l)
		for i := range l {
			path, _ := tree.Path(l, i)
			refused := func(what string, root api.Hash, entry []byte) {
				if err := tree.Verify(root, uint64(n), uint64(i), entry, path); err != api.ErrProof {
					t.Errorf("place %d of %d, %s: %v", i, n, what, err)
				}
			}
			for bit := range 256 {
				other := root
				other[bit/8] ^= 1 << (bit % 8)
				refused("a root with another bit", other, l[i])
			}
			for k := range path {
				bit := d.Intn(256)
				path[k][bit/8] ^= 1 << (bit % 8)
				refused("a hash with another bit", root, l[i])
				path[k][bit/8] ^= 1 << (bit % 8)
			}
			for k := 1; k < len(path); k++ {
				path[k], path[k-1] = path[k-1], path[k]
				refused("two hashes that changed places", root, l[i])
				path[k], path[k-1] = path[k-1], path[k]
			}
			refused("no entry", root, nil)
			refused("an entry with a byte more", root, append(bytes.Clone(l[i]), 0))
			refused("an entry with a byte less", root, l[i][:len(l[i])-1])
			refused("the root of none", tree.Root(nil), l[i])
			refused("noughts", api.Hash{}, l[i])
		}
	}
}

func TestVerifyChangesNothingHandedIn(t *testing.T) {
	l := entriesOf(7)
	path, _ := tree.Path(l, 3)
	room := append(slices.Clone(path), api.Hash{1}, api.Hash{2})
	before := slices.Clone(room)
	for range 2 {
		if err := tree.Verify(tree.Root(l), 7, 3, l[3], room[:len(path)]); err != api.OK {
			t.Error(err)
		}
	}
	if !slices.Equal(room, before) || string(l[3]) != "entry 3" {
		t.Error("what was handed in was changed")
	}
}

// P3.3

func TestPathIsVerified(t *testing.T) {
	l := entriesOf(70)
	l[3], l[17], l[69] = nil, []byte{}, l[68]
	for n := 1; n <= len(l); n++ {
		root := tree.Root(l[:n])
		for i := range n {
			path, err := tree.Path(l[:n], i)
			if err != api.OK {
				t.Fatalf("to %d among %d: %v", i, n, err)
			}
			if err := tree.Verify(root, uint64(n), uint64(i), l[i], path); err != api.OK {
				t.Fatalf("to %d among %d: %v", i, n, err)
			}
		}
	}
}

func TestRandomPathsAreVerified(t *testing.T) {
	d := rand.New(rand.NewSource(5))
	for range 100 {
		l := make([][]byte, 1+d.Intn(400))
		for i := range l {
			l[i] = randomBytes(d, d.Intn(4))
		}
		i := d.Intn(len(l))
		path, err := tree.Path(l, i)
		if err != api.OK || tree.Verify(tree.Root(l), uint64(len(l)), uint64(i), l[i], path) != api.OK {
			t.Errorf("to %d among %d: %v", i, len(l), err)
		}
	}
}

// Whatever path of the tree is handed in, an entry is verified at its own place
// alone.
func TestOnlyWhatIsThereIsVerified(t *testing.T) {
	for n := 1; n <= 12; n++ {
		l := entriesOf(n)
		root := tree.Root(l)
		for from := range l {
			path, _ := tree.Path(l, from)
			for i := range l {
				for e, entry := range l {
					err := tree.Verify(root, uint64(n), uint64(i), entry, path)
					if there := e == i && i == from; there != (err == api.OK) || !there && err != api.ErrProof {
						t.Errorf("entry %d at %d of %d, by the path to %d: %v", e, i, n, from, err)
					}
				}
			}
		}
	}
}
