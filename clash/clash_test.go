package clash_test

import (
	"bytes"
	"crypto/sha256"
	"fmt"
	"math"
	"math/bits"
	"math/rand"
	"slices"
	"testing"

	"assayer/api"
	"assayer/chain"
	"assayer/clash"
	"assayer/tree"
)

// cut and narrow are narrow hashes, by the library.
func cut(wide int, h api.Hash) api.Hash {
	for i := range h {
		if i >= wide {
			h[i] = 0
		}
	}
	return h
}

func narrow(wide int, row []byte) api.Hash { return cut(wide, sha256.Sum256(row)) }

func leafRow(entry []byte) []byte { return append([]byte{0}, entry...) }

func nodeRow(a, b api.Hash) []byte { return append(append([]byte{1}, a[:]...), b[:]...) }

func randomHash(d *rand.Rand) api.Hash {
	var h api.Hash
	d.Read(h[:])
	return h
}

func randomHashes(d *rand.Rand, n int) []api.Hash {
	out := make([]api.Hash, n)
	for i := range out {
		out[i] = randomHash(d)
	}
	return out
}

// otherBit is a hash with one bit changed.
func otherBit(h api.Hash, bit int) api.Hash {
	h[bit/8] ^= 1 << (bit % 8)
	return h
}

// otherByte is a hash with one byte changed.
func otherByte(h api.Hash, i int, x byte) api.Hash {
	h[i] = x
	return h
}

// entriesOf is so many entries that are all different.
func entriesOf(n int) [][]byte {
	l := make([][]byte, n)
	for i := range l {
		l[i] = fmt.Appendf(nil, "entry %d", i)
	}
	return l
}

// climb makes a root of an entry upwards, by the numbers' bits (RFC 9162,
// 2.1.3.2), and takes as many hashes out of next as it needs: it tells the rows
// that it hashes, the root, and what it took.
func climb(wide int, size, i uint64, entry []byte, next func() api.Hash) (rows [][]byte, root api.Hash, path []api.Hash) {
	hash := func(row []byte) api.Hash {
		rows = append(rows, row)
		return narrow(wide, row)
	}
	root = hash(leafRow(entry))
	for last := size - 1; last > 0; i, last = i/2, last/2 {
		if i%2 == 0 && i == last {
			continue
		}
		h := next()
		path = append(path, h)
		if i%2 == 1 {
			root = hash(nodeRow(h, root))
		} else {
			root = hash(nodeRow(root, h))
		}
	}
	return rows, root, path
}

// climbBoth makes both roots of a proof upwards, by the numbers' bits (RFC 9162,
// 2.1.4.2), likewise: the rows are those of the new root. m is 1 to n. An old
// root that is a whole part isn't made, but handed in.
func climbBoth(wide int, m, n uint64, whole api.Hash, next func() api.Hash) (rows [][]byte, old, now api.Hash, path []api.Hash) {
	if m == n {
		return nil, whole, whole, nil
	}
	take := func() api.Hash {
		h := next()
		path = append(path, h)
		return h
	}
	hash := func(row []byte) api.Hash {
		rows = append(rows, row)
		return narrow(wide, row)
	}
	i, last := m-1, n-1
	for i%2 == 1 {
		i, last = i/2, last/2
	}
	old = whole
	if bits.OnesCount64(m) > 1 {
		old = take()
	}
	for now = old; last > 0; i, last = i/2, last/2 {
		h := take()
		if i%2 == 1 || i == last {
			old, now = narrow(wide, nodeRow(h, old)), hash(nodeRow(h, now))
			for i%2 == 0 && i > 0 {
				i, last = i/2, last/2
			}
		} else {
			now = hash(nodeRow(now, h))
		}
	}
	return rows, old, now, path
}

// from takes hashes out of a list, one by one (noughts behind its end).
func from(path []api.Hash) func() api.Hash {
	return func() api.Hash {
		if len(path) == 0 {
			return api.Hash{}
		}
		h := path[0]
		path = path[1:]
		return h
	}
}

func random(d *rand.Rand) func() api.Hash { return func() api.Hash { return randomHash(d) } }

// rowsOf and newRows are the rows of a path and of a proof.
func rowsOf(wide int, size, i uint64, entry []byte, path []api.Hash) [][]byte {
	rows, _, _ := climb(wide, size, i, entry, from(path))
	return rows
}

func newRows(wide int, old api.Key, size uint64, path []api.Hash) [][]byte {
	rows, _, _, _ := climbBoth(wide, old.Size, size, old.Root, from(path))
	return rows
}

// highest is the place of the last two rows that are different.
func highest(t *testing.T, p, q [][]byte) int {
	t.Helper()
	if len(p) != len(q) {
		t.Fatalf("%d rows against %d", len(p), len(q))
	}
	at := -1
	for step := range p {
		if !bytes.Equal(p[step], q[step]) {
			at = step
		}
	}
	if at < 0 {
		t.Fatal("all rows are alike")
	}
	return at
}

// wides are widths, those of no byte, of all, and beyond among them.
func wides() []int { return []int{math.MinInt, -1, 0, 1, 2, 5, 31, 32, 33, math.MaxInt} }

// places are sizes with places in them, small ones and such as no list has.
func places() [][2]uint64 {
	d := rand.New(rand.NewSource(1))
	var out [][2]uint64
	for size := uint64(1); size <= 17; size++ {
		for i := range size {
			out = append(out, [2]uint64{size, i})
		}
	}
	add := func(size uint64) {
		k := tree.Split(size)
		for _, i := range []uint64{0, 1, 2, size / 3, size / 2, size - 2, size - 1, k - 1, k, k + 1, d.Uint64() % (size | 1)} {
			if i < size {
				out = append(out, [2]uint64{size, i})
			}
		}
	}
	for _, n := range []int{5, 8, 16, 31, 32, 33, 48, 62, 63} {
		two := uint64(1) << n
		add(two - 1)
		add(two)
		add(two + 1)
	}
	add(math.MaxUint64)
	add(math.MaxUint64 - 1)
	for range 100 {
		add(d.Uint64() >> d.Intn(64))
	}
	return out
}

// P6.1

func TestCut(t *testing.T) {
	var h api.Hash
	for i := range h {
		h[i] = byte(200 + i)
	}
	for _, c := range []struct {
		wide int
		want api.Hash
	}{
		{1, api.Hash{200}},
		{2, api.Hash{200, 201}},
		{0, api.Hash{}},
		{-1, api.Hash{}},
		{-32, api.Hash{}},
		{math.MinInt, api.Hash{}},
		{31, otherByte(h, 31, 0)},
		{32, h},
		{33, h},
		{math.MaxInt, h},
	} {
		if got := clash.Cut(c.wide, h); got != c.want {
			t.Errorf("of %d: %v, want %v", c.wide, got, c.want)
		}
	}
	for wide := range 40 {
		if got, want := clash.Cut(wide, h), cut(wide, h); got != want {
			t.Errorf("of %d: %v, want %v", wide, got, want)
		}
	}
}

// twoOfOneHash is two rows of one narrow hash, that are different.
func twoOfOneHash(t *testing.T, wide int) clash.Clash {
	t.Helper()
	seen := map[api.Hash]int{}
	for n := range 1000000 {
		row := fmt.Appendf(nil, "row %d", n)
		h := narrow(wide, row)
		if before, ok := seen[h]; ok {
			return clash.Clash{A: fmt.Appendf(nil, "row %d", before), B: row}
		}
		seen[h] = n
	}
	t.Fatalf("no two rows of one hash of %d bytes", wide)
	return clash.Clash{}
}

func TestCheckOfNarrowHashes(t *testing.T) {
	for wide := range 5 {
		c := twoOfOneHash(t, wide)
		whole := 0
		for a, b := narrow(32, c.A), narrow(32, c.B); a[whole] == b[whole]; whole++ {
		}
		for other := -2; other < 40; other++ {
			if got, want := clash.Check(other, c), other <= whole; got != want {
				t.Errorf("%q, %q of %d bytes: %v", c.A, c.B, other, got)
			}
			if turned := (clash.Clash{A: c.B, B: c.A}); clash.Check(other, turned) != (other <= whole) {
				t.Errorf("%q, %q of %d bytes, turned", c.A, c.B, other)
			}
		}
		if !clash.Check(math.MinInt, c) || clash.Check(math.MaxInt, c) {
			t.Errorf("%q, %q, of the least and of the greatest width", c.A, c.B)
		}
	}
}

func TestCheckOfRowsThatAreAlike(t *testing.T) {
	for _, wide := range wides() {
		for _, c := range []clash.Clash{
			{}, {A: []byte{}}, {B: []byte{}}, {A: []byte("abc"), B: []byte("abc")}, {A: make([]byte, 1000), B: make([]byte, 1000)},
		} {
			if clash.Check(wide, c) {
				t.Errorf("%d bytes: %q, %q", wide, c.A, c.B)
			}
		}
	}
}

func TestCheckOfRowsOfOtherLengths(t *testing.T) {
	for _, c := range []clash.Clash{{A: nil, B: []byte{0}}, {A: []byte("ab"), B: []byte("abc")}, {A: []byte{0, 0}, B: []byte{0}}} {
		if !clash.Check(0, c) || !clash.Check(-5, c) || clash.Check(32, c) || clash.Check(8, c) {
			t.Errorf("%q, %q", c.A, c.B)
		}
	}
}

// P6.2

func TestMadeOfWholeHashesIsTheRoot(t *testing.T) {
	l := entriesOf(40)
	for n := 1; n <= len(l); n++ {
		for i := range n {
			path, _ := tree.Path(l[:n], i)
			for _, wide := range []int{32, 33, math.MaxInt} {
				if got, err := clash.Made(wide, uint64(n), uint64(i), l[i], path); err != api.OK || got != tree.Root(l[:n]) {
					t.Fatalf("place %d of %d: %x, %v", i, n, got, err)
				}
			}
		}
	}
}

// The path's hashes stay as they are, the ones that are made are cut.
func TestMadeOfNarrowHashes(t *testing.T) {
	d := rand.New(rand.NewSource(2))
	for _, wide := range wides() {
		for _, c := range places() {
			entry := randomHash(d)
			e := entry[:d.Intn(33)]
			_, want, path := climb(wide, c[0], c[1], e, random(d))
			if got, err := clash.Made(wide, c[0], c[1], e, path); err != api.OK || got != want {
				t.Fatalf("%d bytes, place %d of %d: %x, %v, want %x", wide, c[1], c[0], got, err, want)
			}
			if err := tree.Verify(want, c[0], c[1], e, path); wide >= 32 && err != api.OK {
				t.Fatalf("place %d of %d isn't verified: %v", c[1], c[0], err)
			}
		}
	}
}

func TestMadeOfFew(t *testing.T) {
	d := rand.New(rand.NewSource(3))
	h, g := randomHash(d), randomHash(d)
	leaf := narrow(2, []byte("\x00abc"))
	for _, c := range []struct {
		size, i uint64
		path    []api.Hash
		want    api.Hash
	}{
		{1, 0, nil, leaf},
		{1, 0, []api.Hash{}, leaf},
		{2, 0, []api.Hash{h}, narrow(2, nodeRow(leaf, h))},
		{2, 1, []api.Hash{h}, narrow(2, nodeRow(h, leaf))},
		{3, 2, []api.Hash{h}, narrow(2, nodeRow(h, leaf))},
		{3, 1, []api.Hash{h, g}, narrow(2, nodeRow(narrow(2, nodeRow(h, leaf)), g))},
		{4, 2, []api.Hash{h, g}, narrow(2, nodeRow(g, narrow(2, nodeRow(leaf, h))))},
	} {
		if got, err := clash.Made(2, c.size, c.i, []byte("abc"), c.path); err != api.OK || got != c.want {
			t.Errorf("place %d of %d: %x, %v, want %x", c.i, c.size, got, err, c.want)
		}
	}
	if got, err := clash.Made(2, 1, 0, nil, nil); err != api.OK || got != narrow(2, []byte{0}) {
		t.Errorf("no bytes: %x, %v", got, err)
	}
}

func TestLongEntries(t *testing.T) {
	for _, n := range []int{55, 56, 64, 1000, 70000} {
		a := bytes.Repeat([]byte("a"), n)
		b := append(bytes.Clone(a[1:]), 'b')
		if got, err := clash.Made(4, 1, 0, a, nil); err != api.OK || got != narrow(4, leafRow(a)) {
			t.Errorf("%d bytes: %x, %v", n, got, err)
		}
		got, ok := clash.Paths(0, 1, 0, a, b, nil, nil)
		if !ok || !bytes.Equal(got.A, leafRow(a)) || !bytes.Equal(got.B, leafRow(b)) {
			t.Errorf("%d bytes: %d and %d, %v", n, len(got.A), len(got.B), ok)
		}
	}
}

func TestMadeAtAPlaceThatThereIsnt(t *testing.T) {
	for _, c := range [][2]uint64{
		{0, 0}, {0, 1}, {1, 1}, {9, 9}, {9, 10}, {9, math.MaxUint64}, {math.MaxUint64, math.MaxUint64}, {1 << 63, 1 << 63}, {0, math.MaxUint64},
	} {
		for _, n := range []int{0, 1, 4, 64, 100} {
			for _, wide := range wides() {
				if got, err := clash.Made(wide, c[0], c[1], nil, make([]api.Hash, n)); err != api.ErrRange || got != (api.Hash{}) {
					t.Errorf("place %d of %d, %d hashes: %x, %v", c[1], c[0], n, got, err)
				}
			}
		}
	}
}

func TestMadeWithTooFewOrTooManyHashes(t *testing.T) {
	d := rand.New(rand.NewSource(4))
	for _, c := range places() {
		_, _, path := climb(32, c[0], c[1], nil, random(d))
		for _, n := range []int{0, len(path) - 1, len(path) + 1, len(path) + 2, 64, 65, 1000} {
			if n == len(path) || n < 0 {
				continue
			}
			for _, wide := range []int{0, 1, 32} {
				if got, err := clash.Made(wide, c[0], c[1], nil, randomHashes(d, n)); err != api.ErrProof || got != (api.Hash{}) {
					t.Fatalf("place %d of %d, %d hashes: %x, %v", c[1], c[0], n, got, err)
				}
			}
		}
	}
}

// expectPaths tells if two paths show anything but the two rows of the highest
// step whose rows are different.
func expectPaths(t *testing.T, wide int, size, i uint64, a, b []byte, p, q []api.Hash) int {
	t.Helper()
	rows, others := rowsOf(wide, size, i, a, p), rowsOf(wide, size, i, b, q)
	at := highest(t, rows, others)
	got, ok := clash.Paths(wide, size, i, a, b, p, q)
	if !ok || !bytes.Equal(got.A, rows[at]) || !bytes.Equal(got.B, others[at]) {
		t.Fatalf("%d bytes, place %d of %d: %x, %x, %v, want %x, %x", wide, i, size, got.A, got.B, ok, rows[at], others[at])
	}
	if !clash.Check(wide, got) {
		t.Fatalf("%d bytes, place %d of %d: %x, %x are not of one hash", wide, i, size, got.A, got.B)
	}
	return at
}

func expectNoPaths(t *testing.T, what string, wide int, size, i uint64, a, b []byte, p, q []api.Hash) {
	t.Helper()
	if got, ok := clash.Paths(wide, size, i, a, b, p, q); ok || len(got.A) > 0 || len(got.B) > 0 {
		t.Errorf("%s: %d bytes, place %d of %d: %x, %x, %v", what, wide, i, size, got.A, got.B, ok)
	}
}

// otherWay is another entry, with a path in which the first so many hashes are
// others, that make a's and p's narrow root.
func otherWay(t *testing.T, d *rand.Rand, wide int, size, i uint64, a []byte, p []api.Hash, others int) ([]byte, []api.Hash) {
	t.Helper()
	_, root, _ := climb(wide, size, i, a, from(p))
	for n := range 1000000 {
		b := fmt.Appendf(nil, "another %d", n)
		q := slices.Concat(randomHashes(d, others), p[others:])
		if _, other, _ := climb(wide, size, i, b, from(q)); other == root {
			return b, q
		}
	}
	t.Fatalf("place %d of %d has no other entry", i, size)
	return nil, nil
}

func TestPathsOfEntriesOfOneHash(t *testing.T) {
	d := rand.New(rand.NewSource(5))
	c := twoOfOneHash(t, 2)
	for n := 0; ; n++ {
		a, b := fmt.Appendf(nil, "%s %d", c.A, n), fmt.Appendf(nil, "%s %d", c.B, n)
		if narrow(1, leafRow(a)) != narrow(1, leafRow(b)) {
			continue
		}
		for _, s := range places() {
			_, _, path := climb(1, s[0], s[1], a, random(d))
			got, ok := clash.Paths(1, s[0], s[1], a, b, path, path)
			if !ok || !bytes.Equal(got.A, leafRow(a)) || !bytes.Equal(got.B, leafRow(b)) {
				t.Fatalf("place %d of %d: %q, %q, %v", s[1], s[0], got.A, got.B, ok)
			}
		}
		return
	}
}

func TestPathsOfNarrowTrees(t *testing.T) {
	d := rand.New(rand.NewSource(6))
	steps := map[int]int{}
	for size := uint64(1); size <= 12; size++ {
		for i := range size {
			a := fmt.Appendf(nil, "entry %d", i)
			_, _, p := climb(1, size, i, a, random(d))
			for others := range len(p) + 1 {
				b, q := otherWay(t, d, 1, size, i, a, p, others)
				steps[expectPaths(t, 1, size, i, a, b, p, q)]++
				steps[expectPaths(t, 1, size, i, b, a, q, p)]++
			}
		}
	}
	for at := range 4 {
		if steps[at] == 0 {
			t.Errorf("no two rows of step %d", at)
		}
	}
}

// Of a width of no byte all that differs clashes, and the highest is told,
// whether what is below it differs or not.
func TestPathsShowTheHighestStep(t *testing.T) {
	d := rand.New(rand.NewSource(7))
	for _, c := range places() {
		_, _, p := climb(0, c[0], c[1], nil, random(d))
		for _, k := range fewOf(len(p) + 1) {
			alike, others := slices.Clone(p), slices.Clone(p)
			if k > 0 {
				alike[k-1] = otherBit(alike[k-1], d.Intn(256))
				copy(others, randomHashes(d, k))
			}
			for _, q := range [][]api.Hash{alike, others} {
				wide := []int{0, -1, math.MinInt}[d.Intn(3)]
				if at := expectPaths(t, wide, c[0], c[1], []byte("a"), []byte("b"), p, q); at != k {
					t.Fatalf("place %d of %d: step %d, want %d", c[1], c[0], at, k)
				}
			}
		}
	}
}

// fewOf is numbers below n, each one of a small n.
func fewOf(n int) []int {
	var out []int
	for k := range n {
		if n < 8 || k < 2 || k == n/2 || k >= n-2 {
			out = append(out, k)
		}
	}
	return out
}

// What is told is just what is hashed, its first byte as well.
func TestPathsOfTwo(t *testing.T) {
	h, g := api.Hash{1, 2, 3}, api.Hash{4, 5, 6}
	got, ok := clash.Paths(0, 2, 1, []byte("a"), []byte("b"), []api.Hash{h}, []api.Hash{g})
	if !ok || !bytes.Equal(got.A, slices.Concat([]byte{1}, h[:], make([]byte, 32))) || !bytes.Equal(got.B, slices.Concat([]byte{1}, g[:], make([]byte, 32))) {
		t.Errorf("%x, %x, %v", got.A, got.B, ok)
	}
	got, ok = clash.Paths(0, 2, 0, []byte("a"), nil, []api.Hash{h}, []api.Hash{h})
	if !ok || !bytes.Equal(got.A, []byte{0, 'a'}) || !bytes.Equal(got.B, []byte{0}) {
		t.Errorf("%x, %x, %v", got.A, got.B, ok)
	}
}

func TestPathsOfOneEntry(t *testing.T) {
	d := rand.New(rand.NewSource(8))
	for _, c := range places() {
		_, _, p := climb(0, c[0], c[1], nil, random(d))
		q := randomHashes(d, len(p))
		for _, wide := range []int{-1, 0, 32} {
			expectNoPaths(t, "one entry", wide, c[0], c[1], []byte("a"), []byte("a"), p, q)
			expectNoPaths(t, "one entry, one path", wide, c[0], c[1], []byte("a"), []byte("a"), p, p)
			expectNoPaths(t, "no bytes", wide, c[0], c[1], nil, []byte{}, p, q)
			expectNoPaths(t, "no bytes, the other way round", wide, c[0], c[1], []byte{}, nil, p, q)
		}
	}
}

func TestPathsThatHaveAnError(t *testing.T) {
	d := rand.New(rand.NewSource(9))
	a, b := []byte("a"), []byte("b")
	for _, c := range [][2]uint64{{0, 0}, {1, 1}, {5, 5}, {5, math.MaxUint64}, {math.MaxUint64, math.MaxUint64}} {
		for _, n := range []int{0, 1, 3, 64} {
			expectNoPaths(t, "no place", 0, c[0], c[1], a, b, make([]api.Hash, n), make([]api.Hash, n))
		}
	}
	for _, c := range places() {
		_, _, p := climb(0, c[0], c[1], nil, random(d))
		more := append(slices.Clone(p), api.Hash{})
		expectNoPaths(t, "the first is too long", 0, c[0], c[1], a, b, more, p)
		expectNoPaths(t, "the second is too long", 0, c[0], c[1], a, b, p, more)
		expectNoPaths(t, "both are too long", 0, c[0], c[1], a, b, more, more)
		if len(p) > 0 {
			less := p[1:]
			expectNoPaths(t, "the first is too short", 0, c[0], c[1], a, b, less, p)
			expectNoPaths(t, "the second is too short", 0, c[0], c[1], a, b, p, less)
			expectNoPaths(t, "both are too short", 0, c[0], c[1], a, b, less, less)
		}
	}
}

func TestPathsOfTwoRoots(t *testing.T) {
	d := rand.New(rand.NewSource(10))
	for _, c := range places() {
		_, root, p := climb(1, c[0], c[1], []byte("a"), random(d))
		for n := 0; ; n++ {
			b := fmt.Appendf(nil, "another %d", n)
			if _, other, _ := climb(1, c[0], c[1], b, from(p)); other != root {
				expectNoPaths(t, "two roots", 1, c[0], c[1], []byte("a"), b, p, p)
				break
			}
		}
		expectNoPaths(t, "two roots of whole hashes", 32, c[0], c[1], []byte("a"), []byte("b"), p, p)
	}
}

// What clashes at one width doesn't at greater ones.
func TestPathsOfAWiderHash(t *testing.T) {
	d := rand.New(rand.NewSource(11))
	a := []byte("a")
	_, _, p := climb(1, 5, 2, a, random(d))
	b, q := otherWay(t, d, 1, 5, 2, a, p, len(p))
	expectPaths(t, 1, 5, 2, a, b, p, q)
	expectPaths(t, 0, 5, 2, a, b, p, q)
	expectNoPaths(t, "eight bytes", 8, 5, 2, a, b, p, q)
	expectNoPaths(t, "all bytes", 32, 5, 2, a, b, p, q)
}

func TestPathsAreInNewMemory(t *testing.T) {
	entries, d := []byte("abcdef"), rand.New(rand.NewSource(12))
	room := randomHashes(d, 8)
	before, bytesBefore := slices.Clone(room), bytes.Clone(entries)
	for _, other := range []int{0, 3} {
		a, b := entries[:2], entries[2:4]
		p, q := room[:3], room[other:other+3]
		clash.Made(0, 5, 2, a, p)
		got, ok := clash.Paths(0, 5, 2, a, b, p, q)
		if !ok || !slices.Equal(room, before) || !bytes.Equal(entries, bytesBefore) {
			t.Fatalf("what was handed in was changed, %v", ok)
		}
		want := clash.Clash{A: bytes.Clone(got.A), B: bytes.Clone(got.B)}
		clear(got.A[:cap(got.A)])
		if !bytes.Equal(got.B, want.B) || !slices.Equal(room, before) || !bytes.Equal(entries, bytesBefore) {
			t.Error("who changes a row changes what else there is")
		}
		clear(got.B[:cap(got.B)])
		if !slices.Equal(room, before) || !bytes.Equal(entries, bytesBefore) {
			t.Error("who changes a row changes what was handed in")
		}
		if again, ok := clash.Paths(0, 5, 2, a, b, p, q); !ok || !bytes.Equal(again.A, want.A) || !bytes.Equal(again.B, want.B) {
			t.Error("who changes a row changes the next ones")
		}
	}
}

// P6.3

// twoSizes is sizes of which one goes on in the other.
func twoSizes() [][2]uint64 {
	var out [][2]uint64
	for _, c := range places() {
		out = append(out, [2]uint64{c[1] + 1, c[0]})
	}
	return out
}

func TestChainedOfWholeHashesIsBothRoots(t *testing.T) {
	l := entriesOf(40)
	for n := 1; n <= len(l); n++ {
		for m := 1; m <= n; m++ {
			path, _ := chain.Proof(l[:n], m)
			old := api.Key{Size: uint64(m), Root: tree.Root(l[:m])}
			for _, wide := range []int{32, 33, math.MaxInt} {
				first, second, err := clash.Chained(wide, old, uint64(n), path)
				if err != api.OK || first != old.Root || second != tree.Root(l[:n]) {
					t.Fatalf("%d in %d: %x, %x, %v", m, n, first, second, err)
				}
			}
		}
	}
}

// The hashes of the proof, and an old root that is a whole part, stay as they
// are; the ones that are made are cut.
func TestChainedOfNarrowHashes(t *testing.T) {
	d := rand.New(rand.NewSource(13))
	for _, wide := range wides() {
		for _, c := range twoSizes() {
			old := api.Key{Size: c[0], Root: randomHash(d)}
			_, was, now, path := climbBoth(wide, c[0], c[1], old.Root, random(d))
			first, second, err := clash.Chained(wide, old, c[1], path)
			if err != api.OK || first != was || second != now {
				t.Fatalf("%d bytes, %d in %d: %x, %x, %v, want %x, %x", wide, c[0], c[1], first, second, err, was, now)
			}
			old.Root = was
			if err := chain.Verify(old, api.Key{Size: c[1], Root: now}, path); wide >= 32 && err != api.OK {
				t.Fatalf("%d in %d isn't verified: %v", c[0], c[1], err)
			}
		}
	}
}

func TestChainedOfFew(t *testing.T) {
	d := rand.New(rand.NewSource(14))
	root, h, g, f := randomHash(d), randomHash(d), randomHash(d), randomHash(d)
	pair := func(a, b api.Hash) api.Hash { return narrow(3, nodeRow(a, b)) }
	for _, c := range []struct {
		m, n     uint64
		path     []api.Hash
		old, now api.Hash
	}{
		{1, 1, nil, root, root},
		{6, 6, []api.Hash{}, root, root},
		{math.MaxUint64, math.MaxUint64, nil, root, root},
		{1, 2, []api.Hash{h}, root, pair(root, h)},
		{2, 3, []api.Hash{h}, root, pair(root, h)},
		{1, 3, []api.Hash{h, g}, root, pair(pair(root, h), g)},
		{3, 4, []api.Hash{h, g, f}, pair(f, h), pair(f, pair(h, g))},
		{3, 5, []api.Hash{h, g, f, root}, pair(f, h), pair(pair(f, pair(h, g)), root)},
		{5, 6, []api.Hash{h, g, f}, pair(f, h), pair(f, pair(h, g))},
	} {
		first, second, err := clash.Chained(3, api.Key{Size: c.m, Root: root}, c.n, c.path)
		if err != api.OK || first != c.old || second != c.now {
			t.Errorf("%d in %d: %x, %x, %v, want %x, %x", c.m, c.n, first, second, err, c.old, c.now)
		}
	}
}

func TestChainedOfSizesWithoutAProof(t *testing.T) {
	for _, c := range [][2]uint64{
		{0, 0}, {0, 1}, {0, 9}, {0, math.MaxUint64}, {1, 0}, {9, 5}, {10, 9}, {math.MaxUint64, 9}, {math.MaxUint64, math.MaxUint64 - 1},
	} {
		for _, n := range []int{0, 1, 4, 64, 100} {
			for _, wide := range wides() {
				old := api.Key{Size: c[0], Root: api.Hash{1}}
				first, second, err := clash.Chained(wide, old, c[1], make([]api.Hash, n))
				if err != api.ErrRange || first != (api.Hash{}) || second != (api.Hash{}) {
					t.Errorf("%d in %d, %d hashes: %x, %x, %v", c[0], c[1], n, first, second, err)
				}
			}
		}
	}
}

func TestChainedWithTooFewOrTooManyHashes(t *testing.T) {
	d := rand.New(rand.NewSource(15))
	for _, c := range twoSizes() {
		old := api.Key{Size: c[0], Root: randomHash(d)}
		long := chain.Long(c[0], c[1])
		for _, n := range []int{0, 1, long - 1, long + 1, long + 2, 64, 65, 66, 1000} {
			if n == long || n < 0 {
				continue
			}
			for _, wide := range []int{0, 1, 32} {
				first, second, err := clash.Chained(wide, old, c[1], randomHashes(d, n))
				if err != api.ErrProof || first != (api.Hash{}) || second != (api.Hash{}) {
					t.Fatalf("%d in %d, %d hashes: %x, %x, %v", c[0], c[1], n, first, second, err)
				}
			}
		}
	}
}

// expectChains tells if two proofs show anything but the two rows of the highest
// step whose rows of the new root are different.
func expectChains(t *testing.T, wide int, a, b api.Key, size uint64, p, q []api.Hash) int {
	t.Helper()
	rows, others := newRows(wide, a, size, p), newRows(wide, b, size, q)
	at := highest(t, rows, others)
	got, ok := clash.Chains(wide, a, b, size, p, q)
	if !ok || !bytes.Equal(got.A, rows[at]) || !bytes.Equal(got.B, others[at]) {
		t.Fatalf("%d bytes, %d in %d: %x, %x, %v, want %x, %x", wide, a.Size, size, got.A, got.B, ok, rows[at], others[at])
	}
	if !clash.Check(wide, got) {
		t.Fatalf("%d bytes, %d in %d: %x, %x are not of one hash", wide, a.Size, size, got.A, got.B)
	}
	return at
}

func expectNoChains(t *testing.T, what string, wide int, a, b api.Key, size uint64, p, q []api.Hash) {
	t.Helper()
	if got, ok := clash.Chains(wide, a, b, size, p, q); ok || len(got.A) > 0 || len(got.B) > 0 {
		t.Errorf("%s: %d bytes, %d and %d in %d: %x, %x, %v", what, wide, a.Size, b.Size, size, got.A, got.B, ok)
	}
}

// proofOf is an old key, of random hashes, with the proof that makes it.
func proofOf(d *rand.Rand, wide int, m, n uint64) (api.Key, []api.Hash) {
	_, old, _, path := climbBoth(wide, m, n, randomHash(d), random(d))
	return api.Key{Size: m, Root: old}, path
}

// otherProof is another old key, with a proof in which the last so many hashes
// are p's, that make a's and p's narrow new root.
func otherProof(t *testing.T, d *rand.Rand, wide int, a api.Key, size uint64, p []api.Hash, alike int) (api.Key, []api.Hash) {
	t.Helper()
	_, _, root, _ := climbBoth(wide, a.Size, size, a.Root, from(p))
	for range 1000000 {
		q := slices.Concat(randomHashes(d, len(p)-alike), p[len(p)-alike:])
		_, old, other, _ := climbBoth(wide, a.Size, size, randomHash(d), from(q))
		if other == root && old != a.Root {
			return api.Key{Size: a.Size, Root: old}, q
		}
	}
	t.Fatalf("%d in %d has no other old root", a.Size, size)
	return api.Key{}, nil
}

// atLeast is how many hashes ahead must be others, for another old root.
func atLeast(m uint64) int {
	if bits.OnesCount64(m) == 1 {
		return 0
	}
	return 1
}

func TestChainsOfNarrowTrees(t *testing.T) {
	d := rand.New(rand.NewSource(16))
	steps := map[int]int{}
	for n := uint64(2); n <= 12; n++ {
		for m := uint64(1); m < n; m++ {
			a, p := proofOf(d, 1, m, n)
			for alike := range len(p) - atLeast(m) + 1 {
				b, q := otherProof(t, d, 1, a, n, p, alike)
				steps[expectChains(t, 1, a, b, n, p, q)]++
				steps[expectChains(t, 1, b, a, n, q, p)]++
			}
		}
	}
	for at := range 3 {
		if steps[at] == 0 {
			t.Errorf("no two rows of step %d", at)
		}
	}
}

// Of a width of no byte an old root that is a whole part may be any, and all
// new roots are one: all that differs clashes, and the highest is told.
func TestChainsShowTheHighestStep(t *testing.T) {
	d := rand.New(rand.NewSource(17))
	for _, c := range twoSizes() {
		if bits.OnesCount64(c[0]) != 1 || c[0] == c[1] {
			continue
		}
		a, p := proofOf(d, 0, c[0], c[1])
		b := api.Key{Size: a.Size, Root: otherBit(a.Root, d.Intn(256))}
		if at := expectChains(t, 0, a, b, c[1], p, p); at != 0 {
			t.Fatalf("%d in %d: step %d, want 0", c[0], c[1], at)
		}
		for _, k := range fewOf(len(p)) {
			q := slices.Concat(randomHashes(d, k), p[k:])
			q[k] = otherBit(q[k], d.Intn(256))
			wide := []int{0, -1, math.MinInt}[d.Intn(3)]
			if at := expectChains(t, wide, a, b, c[1], p, q); at != k {
				t.Fatalf("%d in %d: step %d, want %d", c[0], c[1], at, k)
			}
		}
	}
}

func TestChainsOfGreatSizes(t *testing.T) {
	d := rand.New(rand.NewSource(18))
	for _, c := range [][2]uint64{
		{3, math.MaxUint64}, {math.MaxUint64 - 1, math.MaxUint64}, {1<<63 - 1, 1 << 63}, {1<<63 + 1, 1<<63 + 2}, {1 << 63, math.MaxUint64}, {1<<40 + 5, 1<<50 + 3},
	} {
		a, p := proofOf(d, 1, c[0], c[1])
		for _, alike := range []int{0, len(p) / 2, len(p) - 1} {
			b, q := otherProof(t, d, 1, a, c[1], p, alike)
			expectChains(t, 1, a, b, c[1], p, q)
		}
	}
}

func TestChainsOfTwo(t *testing.T) {
	a, b := api.Key{Size: 1, Root: api.Hash{1, 2, 3}}, api.Key{Size: 1, Root: api.Hash{4, 5, 6}}
	h := api.Hash{7, 8, 9}
	got, ok := clash.Chains(0, a, b, 2, []api.Hash{h}, []api.Hash{h})
	if !ok || !bytes.Equal(got.A, slices.Concat([]byte{1}, a.Root[:], h[:])) || !bytes.Equal(got.B, slices.Concat([]byte{1}, b.Root[:], h[:])) {
		t.Errorf("%x, %x, %v", got.A, got.B, ok)
	}
}

// The rows are those of the new root alone: old roots that are made clash by
// rows of theirs, but those aren't told.
func TestChainsShowRowsOfTheNewRoot(t *testing.T) {
	d := rand.New(rand.NewSource(19))
	h, g, f := randomHash(d), randomHash(d), randomHash(d)
	a := api.Key{Size: 3, Root: narrow(1, nodeRow(f, h))}
	for {
		e := randomHash(d)
		b := api.Key{Size: 3, Root: narrow(1, nodeRow(f, e))}
		inner, other := nodeRow(h, g), nodeRow(e, g)
		if b.Root == a.Root || narrow(1, inner) != narrow(1, other) {
			continue
		}
		got, ok := clash.Chains(1, a, b, 4, []api.Hash{h, g, f}, []api.Hash{e, g, f})
		if !ok || !bytes.Equal(got.A, inner) || !bytes.Equal(got.B, other) {
			t.Errorf("%x, %x, %v", got.A, got.B, ok)
		}
		return
	}
}

// Whatever is changed of two proofs that clash is shown no more.
func TestChainsThatShowNothing(t *testing.T) {
	d := rand.New(rand.NewSource(20))
	for n := uint64(2); n <= 12; n++ {
		for m := uint64(1); m < n; m++ {
			a, p := proofOf(d, 1, m, n)
			b, q := otherProof(t, d, 1, a, n, p, 0)
			expectChains(t, 1, a, b, n, p, q)
			expectNoChains(t, "one key", 1, a, a, n, p, p)
			expectNoChains(t, "one root", 1, a, api.Key{Size: m, Root: a.Root}, n, p, q)
			expectNoChains(t, "whole hashes", 32, a, b, n, p, q)
			more := append(slices.Clone(p), api.Hash{})
			expectNoChains(t, "the first is too long", 1, a, b, n, more, q)
			expectNoChains(t, "the second is too long", 1, b, a, n, q, more)
			expectNoChains(t, "the first is too short", 1, a, b, n, p[1:], q)
			expectNoChains(t, "the second is too short", 1, b, a, n, q, p[1:])
			expectNoChains(t, "sizes turned", 1, a, b, m-1, p, q)
			expectNoChains(t, "no entries", 1, a, b, 0, p, q)
			none, noneOther := a, b
			none.Size, noneOther.Size = 0, 0
			expectNoChains(t, "of nothing", 1, none, noneOther, n, p, q)
		}
	}
}

// Sizes must be the same, though both proofs are right, and make one new root.
func TestChainsOfTwoSizes(t *testing.T) {
	d := rand.New(rand.NewSource(21))
	for n := uint64(2); n <= 20; n++ {
		for m := uint64(1); m < n; m++ {
			for k := uint64(1); k < n; k++ {
				if m == k {
					continue
				}
				a, p := proofOf(d, 0, m, n)
				b, q := proofOf(d, 0, k, n)
				if b.Root == a.Root {
					continue
				}
				_, first, err := clash.Chained(0, a, n, p)
				_, second, other := clash.Chained(0, b, n, q)
				if first != second || err != api.OK || other != api.OK {
					t.Fatalf("%d and %d in %d: %x, %v, %x, %v", m, k, n, first, err, second, other)
				}
				expectNoChains(t, "two sizes", 0, a, b, n, p, q)
			}
		}
	}
}

// Each proof must make its own old root.
func TestChainsOfOldRootsThatAreNotMade(t *testing.T) {
	d := rand.New(rand.NewSource(22))
	for n := uint64(4); n <= 12; n++ {
		for m := uint64(3); m < n; m++ {
			if bits.OnesCount64(m) == 1 {
				continue
			}
			a, p := proofOf(d, 1, m, n)
			b, q := otherProof(t, d, 1, a, n, p, 0)
			expectChains(t, 1, a, b, n, p, q)
			for _, bit := range []int{d.Intn(8), 8 + d.Intn(248)} {
				wrong := api.Key{Size: m, Root: otherBit(a.Root, bit)}
				if wrong.Root == b.Root {
					continue
				}
				expectNoChains(t, "the first isn't made", 1, wrong, b, n, p, q)
				expectNoChains(t, "the second isn't made", 1, b, wrong, n, q, p)
			}
			expectNoChains(t, "each makes the other's", 1, b, a, n, p, q)
			expectNoChains(t, "both make one of them", 1, a, b, n, p, p)
			expectNoChains(t, "both make the other one", 1, a, b, n, q, q)
		}
	}
}

// A proof that has an error makes nothing, not even an old root of noughts.
func TestChainsOfAnErrorAndARootOfNoughts(t *testing.T) {
	d := rand.New(rand.NewSource(26))
	for _, c := range [][2]uint64{{1, 2}, {2, 5}, {4, 7}, {8, math.MaxUint64}} {
		a, b := api.Key{Size: c[0]}, api.Key{Size: c[0], Root: randomHash(d)}
		p := randomHashes(d, chain.Long(c[0], c[1]))
		expectChains(t, 0, a, b, c[1], p, p)
		more := append(slices.Clone(p), api.Hash{})
		for _, wrong := range [][]api.Hash{nil, p[1:], more} {
			expectNoChains(t, "the first has an error", 0, a, b, c[1], wrong, p)
			expectNoChains(t, "the second has an error", 0, b, a, c[1], p, wrong)
			expectNoChains(t, "both have an error", 0, a, b, c[1], wrong, wrong)
		}
	}
}

// An old root that is all there is makes itself, so that two make two new ones.
func TestChainsOfTheSameSize(t *testing.T) {
	for _, size := range []uint64{1, 2, 3, 8, 1 << 63, math.MaxUint64} {
		a, b := api.Key{Size: size, Root: api.Hash{1}}, api.Key{Size: size, Root: api.Hash{2}}
		for _, wide := range wides() {
			expectNoChains(t, "all of it", wide, a, b, size, nil, nil)
			expectNoChains(t, "all of it, and a hash", wide, a, b, size, make([]api.Hash, 1), make([]api.Hash, 1))
		}
	}
}

func TestChainsOfTwoNewRoots(t *testing.T) {
	d := rand.New(rand.NewSource(23))
	for _, c := range twoSizes() {
		if c[0] == c[1] {
			continue
		}
		a, p := proofOf(d, 1, c[0], c[1])
		_, _, root, _ := climbBoth(1, c[0], c[1], a.Root, from(p))
		for {
			b, q := proofOf(d, 1, c[0], c[1])
			if _, _, other, _ := climbBoth(1, c[0], c[1], b.Root, from(q)); other == root || b.Root == a.Root {
				continue
			}
			expectNoChains(t, "two new roots", 1, a, b, c[1], p, q)
			break
		}
	}
}

func TestChainsAreInNewMemory(t *testing.T) {
	d := rand.New(rand.NewSource(24))
	room := randomHashes(d, 10)
	before := slices.Clone(room)
	a, b := api.Key{Size: 2, Root: randomHash(d)}, api.Key{Size: 2, Root: randomHash(d)}
	for _, other := range []int{0, 3} {
		p, q := room[:2], room[other:other+2]
		clash.Chained(0, a, 5, p)
		got, ok := clash.Chains(0, a, b, 5, p, q)
		if !ok || !slices.Equal(room, before) {
			t.Fatalf("what was handed in was changed, %v", ok)
		}
		want := clash.Clash{A: bytes.Clone(got.A), B: bytes.Clone(got.B)}
		clear(got.A[:cap(got.A)])
		if !bytes.Equal(got.B, want.B) {
			t.Error("two rows of one answer share memory")
		}
		clear(got.B[:cap(got.B)])
		if again, ok := clash.Chains(0, a, b, 5, p, q); !ok || !slices.Equal(room, before) || !bytes.Equal(again.A, want.A) || !bytes.Equal(again.B, want.B) {
			t.Error("who changes a row changes what else there is")
		}
	}
	whole := append(randomHashes(d, 4), api.Hash{1})
	kept := slices.Clone(whole)
	clash.Chained(0, api.Key{Size: 3}, 7, whole[:4])
	if !slices.Equal(whole, kept) {
		t.Error("a proof that begins with a root was changed")
	}
}

// P6.4

// Whatever is handed in, what is shown is right; and of narrow hashes much is.
func TestWhatIsShownIsRight(t *testing.T) {
	d := rand.New(rand.NewSource(25))
	shown := [2]int{}
	for range 8000 {
		wide := d.Intn(3) - 1
		size := 1 + d.Uint64()%(1<<d.Intn(63))
		i, m := d.Uint64()%size, 1+d.Uint64()%size
		a, b := []byte{byte(d.Intn(4))}, []byte{byte(d.Intn(4))}
		_, _, p := climb(wide, size, i, a, random(d))
		q := randomHashes(d, len(p))
		copy(q[d.Intn(len(q)+1):], p)
		if c, ok := clash.Paths(wide, size, i, a, b, p, q); ok {
			shown[0]++
			if !clash.Check(wide, c) || bytes.Equal(a, b) {
				t.Fatalf("%d bytes, place %d of %d: %x, %x", wide, i, size, c.A, c.B)
			}
		}
		one, path := proofOf(d, wide, m, size)
		two, other := proofOf(d, wide, m, size)
		if d.Intn(2) == 0 {
			two.Size = 1 + d.Uint64()%size
		}
		if c, ok := clash.Chains(wide, one, two, size, path, other); ok {
			shown[1]++
			if !clash.Check(wide, c) || one.Size != two.Size || one.Root == two.Root {
				t.Fatalf("%d bytes, %d in %d: %x, %x", wide, m, size, c.A, c.B)
			}
		}
	}
	if shown[0] < 500 || shown[1] < 100 {
		t.Errorf("only %d and %d were shown", shown[0], shown[1])
	}
}

// Two proofs of whole hashes contradict one another only if SHA-256 is broken;
// honest ones never do, whatever the width, for one entry and one old root.
func TestHonestProofsShowNothing(t *testing.T) {
	l := entriesOf(20)
	for n := 1; n <= len(l); n++ {
		for i := range n {
			path, _ := tree.Path(l[:n], i)
			proof, _ := chain.Proof(l[:n], i+1)
			key := api.Key{Size: uint64(i + 1), Root: tree.Root(l[:i+1])}
			for _, wide := range wides() {
				expectNoPaths(t, "an honest path", wide, uint64(n), uint64(i), l[i], l[i], path, path)
				expectNoChains(t, "an honest proof", wide, key, key, uint64(n), proof, proof)
			}
			expectNoPaths(t, "another entry", 32, uint64(n), uint64(i), l[i], []byte("another"), path, path)
			other := api.Key{Size: key.Size, Root: tree.Root(nil)}
			expectNoChains(t, "another old root", 32, key, other, uint64(n), proof, proof)
		}
	}
}
