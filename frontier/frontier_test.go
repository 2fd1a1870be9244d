package frontier_test

import (
	"bytes"
	"crypto/sha256"
	"encoding/hex"
	"fmt"
	"math"
	"math/bits"
	"math/rand"
	"slices"
	"testing"

	"assayer/api"
	"assayer/chain"
	"assayer/frontier"
	"assayer/tree"
)

// leaf and node are the hashes of an entry and of two hashes, by the library.
func leaf(b []byte) api.Hash { return sha256.Sum256(slices.Concat([]byte{0}, b)) }

func node(a, b api.Hash) api.Hash { return sha256.Sum256(slices.Concat([]byte{1}, a[:], b[:])) }

func nothing() api.Hash { return sha256.Sum256(nil) }

func randomHash(d *rand.Rand) api.Hash {
	var h api.Hash
	d.Read(h[:])
	return h
}

func randomPeaks(d *rand.Rand, size uint64) []api.Hash {
	var out []api.Hash
	for range bits.OnesCount64(size) {
		out = append(out, randomHash(d))
	}
	return out
}

// entriesOf is so many entries that are all different.
func entriesOf(n int) [][]byte {
	l := make([][]byte, n)
	for i := range l {
		l[i] = fmt.Appendf(nil, "entry %d", i)
	}
	return l
}

// plainPeaks is the whole parts' roots, each of them made of its own entries.
func plainPeaks(l [][]byte) []api.Hash {
	var whole func(l [][]byte) api.Hash
	whole = func(l [][]byte) api.Hash {
		if len(l) == 1 {
			return leaf(l[0])
		}
		half := len(l) / 2
		return node(whole(l[:half]), whole(l[half:]))
	}
	var out []api.Hash
	for len(l) > 0 {
		part := 1
		for 2*part <= len(l) {
			part *= 2
		}
		out = append(out, whole(l[:part]))
		l = l[part:]
	}
	return out
}

// plainRoot is gathered from the front on, other than the program's.
func plainRoot(peaks []api.Hash) api.Hash {
	switch len(peaks) {
	case 0:
		return nothing()
	case 1:
		return peaks[0]
	}
	return node(peaks[0], plainRoot(peaks[1:]))
}

// sizes is numbers about which carrying from bit to bit behaves otherwise, and
// some others.
func sizes() []uint64 {
	out := []uint64{0, 5, 6, 7, 10, 11, 12, 13, math.MaxUint64, math.MaxUint64 - 1, math.MaxUint64 - 2, math.MaxUint64 - 1<<40}
	for n := range 64 {
		two := uint64(1) << n
		out = append(out, two, two-1, two+1)
	}
	d := rand.New(rand.NewSource(1))
	for range 100 {
		out = append(out, d.Uint64()>>d.Intn(64))
	}
	return out
}

func from(t *testing.T, size uint64, peaks []api.Hash) *frontier.Frontier {
	t.Helper()
	f, err := frontier.From(size, peaks)
	if err != api.OK || f == nil {
		t.Fatalf("From of %d, %d peaks: %v, %v", size, len(peaks), f, err)
	}
	return f
}

func add(t *testing.T, f *frontier.Frontier, l ...[]byte) {
	t.Helper()
	for _, entry := range l {
		if err := f.Add(entry); err != api.OK {
			t.Fatalf("Add of %q: %v", entry, err)
		}
	}
}

// expect tells if f is another one than that of size and peaks.
func expect(t *testing.T, what string, f *frontier.Frontier, size uint64, peaks []api.Hash) {
	t.Helper()
	if f.Size() != size {
		t.Errorf("%s: size %d, want %d", what, f.Size(), size)
	}
	if got := f.Peaks(); !slices.Equal(got, peaks) {
		t.Errorf("%s, of %d: peaks %x, want %x", what, size, got, peaks)
	}
	if got, want := f.Root(), plainRoot(peaks); got != want {
		t.Errorf("%s, of %d: root %x, want %x", what, size, got, want)
	}
}

// P5.1

func TestNew(t *testing.T) {
	f := frontier.New()
	if f == nil {
		t.Fatal("there is none")
	}
	expect(t, "New", f, 0, nil)
	other := frontier.New()
	add(t, f, []byte("a"))
	expect(t, "another one", other, 0, nil)
}

func TestFrom(t *testing.T) {
	d := rand.New(rand.NewSource(2))
	for _, size := range sizes() {
		peaks := randomPeaks(d, size)
		expect(t, "From", from(t, size, peaks), size, peaks)
	}
	expect(t, "From of nothing", from(t, 0, nil), 0, nil)
	expect(t, "From of no peaks", from(t, 0, []api.Hash{}), 0, nil)
}

// Any hashes are taken, those that no part has as well.
func TestFromTakesAnyHashes(t *testing.T) {
	for _, size := range []uint64{1, 6, 7, math.MaxUint64} {
		peaks := make([]api.Hash, bits.OnesCount64(size))
		expect(t, "noughts", from(t, size, peaks), size, peaks)
	}
}

func TestFromOfTooFewOrTooManyPeaks(t *testing.T) {
	d := rand.New(rand.NewSource(3))
	for _, size := range sizes() {
		want := bits.OnesCount64(size)
		for _, n := range []int{0, 1, want - 1, want + 1, 64, 65, 128, 1000} {
			if n == want || n < 0 {
				continue
			}
			peaks := make([]api.Hash, n)
			for i := range peaks {
				peaks[i] = randomHash(d)
			}
			if f, err := frontier.From(size, peaks); f != nil || err != api.ErrArg {
				t.Errorf("of %d, %d peaks: %v, %v", size, n, f, err)
			}
		}
	}
	if f, err := frontier.From(1, nil); f != nil || err != api.ErrArg {
		t.Errorf("of 1, no peaks: %v, %v", f, err)
	}
}

func TestFromNeitherChangesNorKeepsPeaks(t *testing.T) {
	d := rand.New(rand.NewSource(4))
	for _, size := range []uint64{3, 7, 8, 1<<40 + 5} {
		peaks := randomPeaks(d, size)
		room := append(slices.Clone(peaks), api.Hash{1}, api.Hash{2})
		before := slices.Clone(room)
		f, grown := from(t, size, room[:len(peaks)]), from(t, size, room[:len(peaks)])
		add(t, grown, []byte("a"), []byte("b"), []byte("c"))
		if !slices.Equal(room, before) {
			t.Errorf("of %d: what was handed in was changed", size)
		}
		grownPeaks := grown.Peaks()
		clear(room)
		expect(t, "behind a change of what was handed in", f, size, peaks)
		expect(t, "that, and grown", grown, size+3, grownPeaks)
	}
}

func TestPeaksAreInNewMemory(t *testing.T) {
	f := frontier.New()
	add(t, f, entriesOf(7)...)
	want := plainPeaks(entriesOf(7))
	got := f.Peaks()
	clear(got[:cap(got)])
	expect(t, "behind a change of its peaks", f, 7, want)
	got = f.Peaks()
	add(t, f, entriesOf(8)[7])
	if !slices.Equal(got, want) {
		t.Error("what was answered is changed by Add")
	}
	expect(t, "one more", f, 8, plainPeaks(entriesOf(8)))
}

func TestOfNil(t *testing.T) {
	var f *frontier.Frontier
	if f.Size() != 0 || len(f.Peaks()) != 0 {
		t.Errorf("size %d, peaks %x", f.Size(), f.Peaks())
	}
	if got := f.Root(); got != nothing() {
		t.Errorf("root %x", got)
	}
	if err := f.Add([]byte("a")); err != api.ErrArg {
		t.Errorf("Add: %v", err)
	}
	if err := f.Add(nil); err != api.ErrArg {
		t.Errorf("Add of nothing: %v", err)
	}
}

// P5.2

func TestAddOneByOne(t *testing.T) {
	f, l := frontier.New(), entriesOf(300)
	for n, entry := range l {
		add(t, f, entry)
		expect(t, "one by one", f, uint64(n+1), plainPeaks(l[:n+1]))
	}
}

func TestAddToSeven(t *testing.T) {
	l := entriesOf(8)
	a, b, c, d := leaf(l[0]), leaf(l[1]), leaf(l[2]), leaf(l[3])
	four, two := node(node(a, b), node(c, d)), node(leaf(l[4]), leaf(l[5]))
	f := frontier.New()
	add(t, f, l[:7]...)
	expect(t, "seven", f, 7, []api.Hash{four, two, leaf(l[6])})
	add(t, f, l[7])
	expect(t, "eight", f, 8, []api.Hash{node(four, node(two, node(leaf(l[6]), leaf(l[7]))))})
}

// Sizes that nobody adds up to: each part that has room behind it takes what is
// carried on from the one below, from the lowest one on.
func TestAddToGreatSizes(t *testing.T) {
	d := rand.New(rand.NewSource(5))
	for _, size := range sizes() {
		if size == math.MaxUint64 {
			continue
		}
		peaks := randomPeaks(d, size)
		f := from(t, size, peaks)
		for i := range 5 {
			if size == math.MaxUint64 {
				break
			}
			entry := fmt.Appendf(nil, "entry %d", i)
			joined := bits.TrailingZeros64(^size)
			h, stay := leaf(entry), len(peaks)-joined
			for at := len(peaks) - 1; at >= stay; at-- {
				h = node(peaks[at], h)
			}
			peaks = append(slices.Clone(peaks[:stay]), h)
			size++
			add(t, f, entry)
			expect(t, "one more", f, size, peaks)
		}
	}
}

func TestAddToTheGreatestSize(t *testing.T) {
	d := rand.New(rand.NewSource(6))
	peaks := randomPeaks(d, math.MaxUint64-1)
	f := from(t, math.MaxUint64-1, peaks)
	add(t, f, []byte("the last one"))
	full := append(slices.Clone(peaks), leaf([]byte("the last one")))
	expect(t, "full", f, math.MaxUint64, full)
	for _, entry := range [][]byte{nil, []byte("one more")} {
		if err := f.Add(entry); err != api.ErrFull {
			t.Errorf("Add of %q: %v", entry, err)
		}
		expect(t, "still full", f, math.MaxUint64, full)
	}
	if err := from(t, math.MaxUint64, full).Add(nil); err != api.ErrFull {
		t.Errorf("From, and Add: %v", err)
	}
}

func TestAddTakesANilEntryForAnEmptyOne(t *testing.T) {
	f := frontier.New()
	add(t, f, nil, []byte{}, nil)
	empty := leaf(nil)
	expect(t, "empty ones", f, 3, []api.Hash{node(empty, empty), empty})
}

func TestAddNeitherChangesNorKeepsAnEntry(t *testing.T) {
	f, entry := frontier.New(), []byte("abcdef")
	add(t, f, entry[:3], entry[:3], entry[:3])
	if !bytes.Equal(entry, []byte("abcdef")) {
		t.Errorf("%q", entry)
	}
	clear(entry)
	h := leaf([]byte("abc"))
	expect(t, "behind a change of the entry", f, 3, []api.Hash{node(h, h), h})
}

// Whoever copies a frontier as a value has one of its own.
func TestAddToACopyOfTheStruct(t *testing.T) {
	l, others := entriesOf(40), entriesOf(40)
	for n := range len(l) - 8 {
		f := frontier.New()
		add(t, f, l[:n]...)
		second := *f
		for i := n; i < n+8; i++ {
			others[i] = []byte("another")
			add(t, f, l[i])
			add(t, &second, others[i])
			expect(t, "the first one", f, uint64(i+1), plainPeaks(l[:i+1]))
			expect(t, "its copy", &second, uint64(i+1), plainPeaks(slices.Concat(l[:n], others[n:i+1])))
		}
	}
}

// P5.3

func TestRootOfFewPeaks(t *testing.T) {
	d := rand.New(rand.NewSource(7))
	a, b, c := randomHash(d), randomHash(d), randomHash(d)
	for _, s := range []struct {
		size  uint64
		peaks []api.Hash
		want  api.Hash
	}{
		{0, nil, nothing()},
		{1, []api.Hash{a}, a},
		{1 << 63, []api.Hash{a}, a},
		{3, []api.Hash{a, b}, node(a, b)},
		{1<<63 + 1, []api.Hash{a, b}, node(a, b)},
		{7, []api.Hash{a, b, c}, node(a, node(b, c))},
		{1<<63 + 1<<20 + 2, []api.Hash{a, b, c}, node(a, node(b, c))},
	} {
		if got := from(t, s.size, s.peaks).Root(); got != s.want {
			t.Errorf("of %d: %x, want %x", s.size, got, s.want)
		}
	}
}

// A path to the last entry of an odd size is all peaks but its own.
func TestRootIsThatOfPaths(t *testing.T) {
	d := rand.New(rand.NewSource(8))
	for _, size := range sizes() {
		if size%2 == 1 {
			continue
		}
		peaks := randomPeaks(d, size)
		f := from(t, size, peaks)
		add(t, f, []byte("the last one"))
		slices.Reverse(peaks)
		if err := tree.Verify(f.Root(), size+1, size, []byte("the last one"), peaks); err != api.OK {
			t.Errorf("of %d: %v", size+1, err)
		}
	}
}

func TestRootChangesNothing(t *testing.T) {
	f, l := frontier.New(), entriesOf(20)
	for n, entry := range l {
		add(t, f, entry)
		if f.Root() != f.Root() {
			t.Error("one frontier has two roots")
		}
		expect(t, "behind Root", f, uint64(n+1), plainPeaks(l[:n+1]))
	}
}

// P5.4

// known is the eight entries that other programs test their trees with, and
// knownRoots the roots of the first ones of them.
var known = [][]byte{
	{}, {0}, {0x10}, []byte(" !"), []byte("01"), []byte("@ABC"), []byte("PQRSTUVW"), []byte("`abcdefghijklmno"),
}

var knownRoots = []string{
	"e3b0c44298fc1c149afbf4c8996fb92427ae41e4649b934ca495991b7852b855",
	"6e340b9cffb37a989ca544e6bb780a2c78901d3fb33738768511a30617afa01d",
	"fac54203e7cc696cf0dfcb42c92a1d9dbaf70ad9e621f4bd8d98662f00e3c125",
	"aeb6bcfe274b70a14fb067a5e5578264db0fa9b51af5e0ba159158f329e06e77",
	"d37ee418976dd95753c1c73862b9398fa2a2cf9b4ff0fdfe8b30cd95209614b7",
	"4e3bbb1f7b478dcfe71fb631631519a3bca12c9aefca1612bfce4c13a86264d4",
	"76e67dadbcdf1e10e1b74ddc608abd2f98dfb16fbce75277b5232a127f2087ef",
	"ddb89be403809e325750d3d263cd78929c2942b7942a34b77e122c9594a74c8c",
	"5dc9da79a70659a9ad559cb701ded9a2ab9d823aad2f4960cfe370eff4604328",
}

func TestRootOfKnownEntries(t *testing.T) {
	f := frontier.New()
	for n, want := range knownRoots {
		if h := f.Root(); hex.EncodeToString(h[:]) != want {
			t.Errorf("of %d: %x, want %s", n, h, want)
		}
		if n < len(known) {
			add(t, f, known[n])
		}
	}
}

func TestRootIsThatOfTheEntries(t *testing.T) {
	f, l := frontier.New(), entriesOf(600)
	l[3], l[17], l[599] = nil, []byte{}, l[598]
	for n := 0; ; n++ {
		if got, want := f.Root(), tree.Root(l[:n]); got != want {
			t.Errorf("of %d: %x, want %x", n, got, want)
		}
		if n == len(l) {
			break
		}
		add(t, f, l[n])
	}
}

func TestRootOfManyEntries(t *testing.T) {
	f, l := frontier.New(), entriesOf(70000)
	add(t, f, l...)
	if f.Size() != 70000 || f.Root() != tree.Root(l) || !slices.Equal(f.Peaks(), plainPeaks(l)) {
		t.Errorf("size %d, root %x", f.Size(), f.Root())
	}
}

// What was told of one, and handed in again, goes on as that one does.
func TestFromOfWhatAnotherOneTells(t *testing.T) {
	l := entriesOf(70)
	for m := range len(l) + 1 {
		f := frontier.New()
		add(t, f, l[:m]...)
		second := from(t, f.Size(), f.Peaks())
		add(t, second, l[m:]...)
		expect(t, "gone on", second, uint64(len(l)), plainPeaks(l))
		expect(t, "left behind", f, uint64(m), plainPeaks(l[:m]))
	}
}

func TestRootsGoOn(t *testing.T) {
	l := entriesOf(40)
	f, keys := frontier.New(), []api.Key{{}}
	for _, entry := range l {
		add(t, f, entry)
		keys = append(keys, api.Key{Size: f.Size(), Root: f.Root()})
	}
	for n := 1; n <= len(l); n++ {
		for m := 1; m <= n; m++ {
			path, err := chain.Proof(l[:n], m)
			if err != api.OK || chain.Verify(keys[m], keys[n], path) != api.OK {
				t.Errorf("%d in %d: %v", m, n, err)
			}
		}
	}
}
