package digest_test

import (
	"bytes"
	"encoding/binary"
	"encoding/hex"
	"math"
	"math/rand"
	"slices"
	"testing"

	"assayer/api"
	"assayer/digest"
)

// key is a size, and a root that begins with some bytes.
func key(size uint64, root ...byte) api.Key {
	k := api.Key{Size: size}
	copy(k.Root[:], root)
	return k
}

// sizes are keys that are told apart by their sizes.
func sizes(l ...uint64) []api.Key {
	var keys []api.Key
	for _, size := range l {
		keys = append(keys, key(size, 7))
	}
	return keys
}

// id is a hash that begins with some bytes.
func id(b ...byte) api.Hash {
	var h api.Hash
	copy(h[:], b)
	return h
}

// ids are hashes that are told apart by their first bytes.
func ids(l ...byte) []api.Hash {
	var hashes []api.Hash
	for _, c := range l {
		hashes = append(hashes, id(c))
	}
	return hashes
}

// counted are keys of the sizes from first on, so many.
func counted(first, many int) []api.Key {
	var keys []api.Key
	for k := range many {
		keys = append(keys, key(uint64(first+k), byte(k)))
	}
	return keys
}

// countedIds are hashes that begin with the numbers from first on, so many.
func countedIds(first, many int) []api.Hash {
	var hashes []api.Hash
	for k := range many {
		hashes = append(hashes, id(byte(first+k), 1))
	}
	return hashes
}

// root is the bytes from first on.
func root(first int) api.Hash {
	var h api.Hash
	for k := range h {
		h[k] = byte(first + k)
	}
	return h
}

func randomKey(r *rand.Rand) api.Key {
	k := api.Key{Size: r.Uint64()}
	r.Read(k.Root[:])
	return k
}

func randomDigest(r *rand.Rand, keys, frauds int) digest.Digest {
	var d digest.Digest
	for range keys {
		d.Keys = append(d.Keys, randomKey(r))
	}
	for range frauds {
		d.Frauds = append(d.Frauds, randomKey(r).Root)
	}
	return d
}

// plainPut is a digest's bytes by the document's words.
func plainPut(d digest.Digest) []byte {
	b := []byte{byte(len(d.Keys))}
	for _, k := range d.Keys {
		b = binary.BigEndian.AppendUint64(b, k.Size)
		b = append(b, k.Root[:]...)
	}
	b = append(b, byte(len(d.Frauds)))
	for _, h := range d.Frauds {
		b = append(b, h[:]...)
	}
	return b
}

func same(a, b digest.Digest) bool {
	return slices.Equal(a.Keys, b.Keys) && slices.Equal(a.Frauds, b.Frauds)
}

// expectPut puts a digest.
func expectPut(t *testing.T, name string, d digest.Digest, want []byte) {
	t.Helper()
	if b, err := digest.Put(d); err != api.OK || !bytes.Equal(b, want) {
		t.Errorf("%s: Put is %x, error %d, not %x", name, b, err, want)
	}
}

// expectGot gets a digest of bytes.
func expectGot(t *testing.T, name string, b []byte, want digest.Digest) {
	t.Helper()
	if d, err := digest.Get(b); err != api.OK || !same(d, want) {
		t.Errorf("%s: Get is %v, error %d, not %v", name, d, err, want)
	}
}

// expectRefused gets a digest of bytes in vain.
func expectRefused(t *testing.T, name string, b []byte, want api.Errno) {
	t.Helper()
	d, err := digest.Get(b)
	if err != want {
		t.Errorf("%s, %d bytes: error %d, not %d", name, len(b), err, want)
	}
	if d.Keys != nil || d.Frauds != nil {
		t.Errorf("%s, %d bytes: a digest beside error %d", name, len(b), err)
	}
}

func expectKeys(t *testing.T, name string, got, want []api.Key) {
	t.Helper()
	if !slices.Equal(got, want) {
		t.Errorf("%s: %v, not %v", name, got, want)
	}
}

func expectIds(t *testing.T, name string, got, want []api.Hash) {
	t.Helper()
	if !slices.Equal(got, want) {
		t.Errorf("%s: %v, not %v", name, got, want)
	}
}

// P19.1

func TestMakeOfFew(t *testing.T) {
	for _, many := range []int{0, 1, 2, 31, 32} {
		keys, frauds := counted(5, many), countedIds(9, many)
		d := digest.Make(keys, frauds)
		expectKeys(t, "all of few keys", d.Keys, keys)
		expectIds(t, "all of few frauds", d.Frauds, frauds)
	}
}

func TestMakeOfManyHasTheLast(t *testing.T) {
	for _, many := range []int{33, 34, 64, 65, 200} {
		keys, frauds := counted(0, many), countedIds(0, many)
		d := digest.Make(keys, frauds)
		if len(d.Keys) != 32 || len(d.Frauds) != 32 {
			t.Fatalf("of %d: %d keys, %d frauds", many, len(d.Keys), len(d.Frauds))
		}
		expectKeys(t, "the last keys", d.Keys, keys[many-32:])
		expectIds(t, "the last frauds", d.Frauds, frauds[many-32:])
	}
}

func TestMakeCountsEachListByItself(t *testing.T) {
	d := digest.Make(counted(0, 40), countedIds(0, 3))
	expectKeys(t, "many keys", d.Keys, counted(0, 40)[8:])
	expectIds(t, "few frauds", d.Frauds, countedIds(0, 3))
	d = digest.Make(counted(0, 3), countedIds(0, 40))
	expectKeys(t, "few keys", d.Keys, counted(0, 3))
	expectIds(t, "many frauds", d.Frauds, countedIds(0, 40)[8:])
	d = digest.Make(nil, []api.Hash{})
	if len(d.Keys) != 0 || len(d.Frauds) != 0 {
		t.Errorf("of nothing: %v", d)
	}
}

func TestMakeKeepsOrderAndWhatIsThereTwice(t *testing.T) {
	keys, frauds := sizes(9, 2, 2, 5, 9), ids(9, 2, 2, 5, 9)
	d := digest.Make(keys, frauds)
	expectKeys(t, "keys in their order", d.Keys, keys)
	expectIds(t, "frauds in their order", d.Frauds, frauds)
}

func TestMakeIsNewMemory(t *testing.T) {
	for _, many := range []int{1, 32, 40} {
		keys, frauds := counted(0, many), countedIds(0, many)
		d := digest.Make(keys, frauds)
		keys[many-1], frauds[many-1] = key(1000), id(255)
		if d.Keys[len(d.Keys)-1] == key(1000) || d.Frauds[len(d.Frauds)-1] == id(255) {
			t.Errorf("of %d: what is made changes with what was handed in", many)
		}
		d.Keys[0], d.Frauds[0] = key(2000), id(254)
		_ = append(d.Keys, key(3000))
		_ = append(d.Frauds, id(253))
		if slices.Contains(keys, key(2000)) || slices.Contains(frauds, id(254)) {
			t.Errorf("of %d: what was handed in changes with what is made", many)
		}
	}
}

func TestWantsOfTheExample(t *testing.T) {
	expectKeys(t, "1 2, of 2 3", digest.Wants(sizes(1, 2), digest.Digest{Keys: sizes(2, 3)}), sizes(3))
}

func TestWants(t *testing.T) {
	for name, c := range map[string]struct{ known, told, want []api.Key }{
		"nothing of nothing":       {nil, nil, nil},
		"nothing of something":     {sizes(1, 2), nil, nil},
		"all of what is new":       {nil, sizes(3, 1, 2), sizes(3, 1, 2)},
		"all are known":            {sizes(1, 2, 3), sizes(3, 2, 1), nil},
		"each once":                {sizes(5), sizes(4, 4, 5, 4, 5), sizes(4)},
		"as they come first":       {sizes(1), sizes(9, 3, 9, 1, 8, 3), sizes(9, 3, 8)},
		"what is known twice":      {sizes(1, 1, 2), sizes(1, 2, 3), sizes(3)},
		"a size of two roots":      {[]api.Key{key(1, 7)}, []api.Key{key(1, 7), key(1, 8)}, []api.Key{key(1, 8)}},
		"a root of two sizes":      {[]api.Key{key(1, 7)}, []api.Key{key(2, 7)}, []api.Key{key(2, 7)}},
		"the last byte of a root":  {[]api.Key{{Root: root(0)}}, []api.Key{{Root: api.Hash{31: 1}}, {Root: root(0)}}, []api.Key{{Root: api.Hash{31: 1}}}},
		"no size, and the highest": {sizes(1), sizes(math.MaxUint64, 0, 1), sizes(math.MaxUint64, 0)},
	} {
		expectKeys(t, name, digest.Wants(c.known, digest.Digest{Keys: c.told, Frauds: ids(1)}), c.want)
		// What one wants of another one is what the other one, if it were told, would lack.
		expectKeys(t, name+", lacked", digest.Lacks(c.told, digest.Digest{Keys: c.known, Frauds: ids(1)}), c.want)
	}
}

func TestLacks(t *testing.T) {
	for name, c := range map[string]struct{ known, told, want []api.Key }{
		"all, of a digest of nothing": {sizes(2, 1), nil, sizes(2, 1)},
		"nothing is known":            {nil, sizes(2, 1), nil},
		"the digest has them":         {sizes(2, 1), sizes(1, 2, 3), nil},
		"each once, as they come":     {sizes(6, 2, 6, 4, 1, 2), sizes(1), sizes(6, 2, 4)},
	} {
		expectKeys(t, name, digest.Lacks(c.known, digest.Digest{Keys: c.told, Frauds: ids(1, 2)}), c.want)
	}
}

func TestMisses(t *testing.T) {
	for name, c := range map[string]struct{ known, told, want []api.Hash }{
		"nothing of nothing":          {nil, nil, nil},
		"all, of a digest of nothing": {ids(2, 1), nil, ids(2, 1)},
		"nothing is known":            {nil, ids(2, 1), nil},
		"the digest has them":         {ids(2, 1), ids(1, 2, 3), nil},
		"each once, as they come":     {ids(6, 2, 6, 4, 1, 2), ids(1), ids(6, 2, 4)},
		"the last byte":               {[]api.Hash{root(0), {31: 31}}, []api.Hash{root(0)}, []api.Hash{{31: 31}}},
	} {
		expectIds(t, name, digest.Misses(c.known, digest.Digest{Keys: sizes(2, 1), Frauds: c.told}), c.want)
	}
}

// More may be known, and told, than a digest has room for as bytes.
func TestWantsLacksAndMissesOfMany(t *testing.T) {
	keys, frauds := counted(0, 200), countedIds(0, 200)
	expectKeys(t, "many wanted", digest.Wants(keys[:50], digest.Digest{Keys: keys}), keys[50:])
	expectKeys(t, "many lacked", digest.Lacks(keys, digest.Digest{Keys: keys[:50]}), keys[50:])
	expectIds(t, "many missed", digest.Misses(frauds, digest.Digest{Frauds: frauds[:50]}), frauds[50:])
}

// among tells whether a key is one of some, one by one.
func among(l []api.Key, k api.Key) bool {
	for _, x := range l {
		if x.Size == k.Size && x.Root == k.Root {
			return true
		}
	}
	return false
}

func TestWantsLacksAndMissesAtRandom(t *testing.T) {
	r := rand.New(rand.NewSource(19))
	for range 2000 {
		var known, told []api.Key
		var knownIds, toldIds []api.Hash
		for range r.Intn(8) {
			k := key(uint64(r.Intn(3)), byte(r.Intn(3)))
			known, knownIds = append(known, k), append(knownIds, id(byte(k.Size), k.Root[0]))
		}
		for range r.Intn(8) {
			k := key(uint64(r.Intn(3)), byte(r.Intn(3)))
			told, toldIds = append(told, k), append(toldIds, id(byte(k.Size), k.Root[0]))
		}
		var wants, lacks []api.Key
		var misses []api.Hash
		for _, k := range told {
			if !among(known, k) && !among(wants, k) {
				wants = append(wants, k)
			}
		}
		for _, k := range known {
			if !among(told, k) && !among(lacks, k) {
				lacks, misses = append(lacks, k), append(misses, id(byte(k.Size), k.Root[0]))
			}
		}
		d := digest.Digest{Keys: told, Frauds: toldIds}
		expectKeys(t, "wants", digest.Wants(known, d), wants)
		expectKeys(t, "lacks", digest.Lacks(known, d), lacks)
		expectIds(t, "misses", digest.Misses(knownIds, d), misses)
	}
}

func TestNothingHandedInIsChangedOrKept(t *testing.T) {
	known, told := sizes(1, 2, 1, 4), sizes(2, 3, 3, 5)
	knownIds, toldIds := ids(1, 2, 1, 4), ids(2, 3, 3, 5)
	d := digest.Digest{Keys: told, Frauds: toldIds}
	wants, lacks, misses := digest.Wants(known, d), digest.Lacks(known, d), digest.Misses(knownIds, d)
	expectKeys(t, "known", known, sizes(1, 2, 1, 4))
	expectKeys(t, "told", told, sizes(2, 3, 3, 5))
	expectIds(t, "known ids", knownIds, ids(1, 2, 1, 4))
	expectIds(t, "told ids", toldIds, ids(2, 3, 3, 5))
	clear(known)
	clear(told)
	clear(knownIds)
	clear(toldIds)
	expectKeys(t, "wants", wants, sizes(3, 5))
	expectKeys(t, "lacks", lacks, sizes(1, 4))
	expectIds(t, "misses", misses, ids(1, 4))
}

// P19.2

func TestPutOfKnownBytes(t *testing.T) {
	const first, second = "000102030405060708090a0b0c0d0e0f101112131415161718191a1b1c1d1e1f",
		"202122232425262728292a2b2c2d2e2f303132333435363738393a3b3c3d3e3f"
	for _, c := range []struct {
		d    digest.Digest
		want string
	}{
		{digest.Digest{}, "0000"},
		{digest.Digest{Keys: []api.Key{}, Frauds: []api.Hash{}}, "0000"},
		{digest.Digest{Keys: []api.Key{{Size: 258, Root: root(0)}}}, "01" + "0000000000000102" + first + "00"},
		{digest.Digest{Frauds: []api.Hash{root(32)}}, "00" + "01" + second},
		{digest.Digest{
			Keys:   []api.Key{{Size: math.MaxUint64, Root: root(32)}, {Size: 1, Root: root(0)}},
			Frauds: []api.Hash{root(32), root(0)},
		}, "02" + "ffffffffffffffff" + second + "0000000000000001" + first + "02" + second + first},
	} {
		want, err := hex.DecodeString(c.want)
		if err != nil {
			t.Fatal(err)
		}
		expectPut(t, "known bytes", c.d, want)
		expectGot(t, "known bytes", want, c.d)
	}
}

func TestPutOfManyAndTooMany(t *testing.T) {
	for _, keys := range []int{0, 1, 31, 32, 33, 64, 255, 256, 257, 300} {
		for _, frauds := range []int{0, 1, 31, 32, 33, 64, 255, 256, 257, 300} {
			d := randomDigest(rand.New(rand.NewSource(1)), keys, frauds)
			if keys <= 32 && frauds <= 32 {
				expectPut(t, "as many as may be", d, plainPut(d))
				continue
			}
			if b, err := digest.Put(d); err != api.ErrBig || b != nil {
				t.Errorf("%d keys, %d frauds: %d bytes, error %d", keys, frauds, len(b), err)
			}
		}
	}
}

func TestPutOfWhatIsMade(t *testing.T) {
	d := digest.Make(counted(0, 100), countedIds(0, 100))
	b, err := digest.Put(d)
	if err != api.OK || len(b) != 1+32*40+1+32*32 {
		t.Errorf("%d bytes, error %d", len(b), err)
	}
}

func TestPutChangesAndKeepsNothing(t *testing.T) {
	d := digest.Digest{Keys: counted(3, 4), Frauds: countedIds(5, 6)}
	want := plainPut(d)
	b, _ := digest.Put(d)
	clear(d.Keys)
	clear(d.Frauds)
	if !bytes.Equal(b, want) {
		t.Error("bytes change with the digest")
	}
	d = digest.Digest{Keys: counted(3, 4), Frauds: countedIds(5, 6)}
	b, _ = digest.Put(d)
	clear(b)
	if !same(d, digest.Digest{Keys: counted(3, 4), Frauds: countedIds(5, 6)}) {
		t.Error("the digest changes with bytes")
	}
	expectPut(t, "put again", d, want)
}

func TestGetOfTooFewBytes(t *testing.T) {
	expectRefused(t, "nil", nil, api.ErrShort)
	expectRefused(t, "none", []byte{}, api.ErrShort)
	for _, many := range [][2]int{{0, 0}, {1, 0}, {0, 1}, {2, 3}, {32, 32}} {
		b := plainPut(randomDigest(rand.New(rand.NewSource(2)), many[0], many[1]))
		for n := range len(b) {
			expectRefused(t, "cut short", b[:n], api.ErrShort)
		}
	}
}

func TestGetOfTooManyBytes(t *testing.T) {
	for _, many := range [][2]int{{0, 0}, {1, 0}, {0, 1}, {2, 3}, {32, 32}} {
		b := plainPut(randomDigest(rand.New(rand.NewSource(3)), many[0], many[1]))
		for _, more := range []int{1, 2, 32, 40, 1000} {
			expectRefused(t, "bytes are left", append(slices.Clone(b), make([]byte, more)...), api.ErrLeft)
		}
	}
}

// A number that is too great is refused as soon as it is read: whatever follows, or if nothing does.
func TestGetOfTooManyKeys(t *testing.T) {
	for many := 33; many <= 255; many++ {
		expectRefused(t, "nothing follows", []byte{byte(many)}, api.ErrBig)
		expectRefused(t, "a few bytes follow", []byte{byte(many), 1, 2, 3}, api.ErrBig)
		expectRefused(t, "too many frauds follow", []byte{byte(many), 255}, api.ErrBig)
		expectRefused(t, "all of it", plainPut(randomDigest(rand.New(rand.NewSource(4)), many, 1)), api.ErrBig)
	}
}

func TestGetOfTooManyFrauds(t *testing.T) {
	for many := 33; many <= 255; many++ {
		for _, keys := range []int{0, 1, 32} {
			b := plainPut(randomDigest(rand.New(rand.NewSource(5)), keys, many))
			expectRefused(t, "all of it", b, api.ErrBig)
			expectRefused(t, "bytes are left", append(slices.Clone(b), 0), api.ErrBig)
			expectRefused(t, "nothing follows", b[:1+40*keys+1], api.ErrBig)
			expectRefused(t, "a few bytes follow", b[:1+40*keys+4], api.ErrBig)
		}
	}
}

// Bytes of keys that end too early are told before the number of frauds, which isn't read.
func TestGetOfKeysThatEndTooEarly(t *testing.T) {
	expectRefused(t, "two keys, bytes of one", append([]byte{2}, bytes.Repeat([]byte{255}, 40)...), api.ErrShort)
	expectRefused(t, "two keys, bytes of almost two", append([]byte{2}, bytes.Repeat([]byte{255}, 79)...), api.ErrShort)
	expectRefused(t, "two keys, no number behind", append([]byte{2}, bytes.Repeat([]byte{255}, 80)...), api.ErrShort)
	expectRefused(t, "two keys, too great a number behind", append([]byte{2}, bytes.Repeat([]byte{255}, 81)...), api.ErrBig)
}

func TestGetIsNewMemory(t *testing.T) {
	want := randomDigest(rand.New(rand.NewSource(6)), 3, 4)
	b := plainPut(want)
	d, err := digest.Get(b)
	other, _ := digest.Get(b)
	if err != api.OK || !bytes.Equal(b, plainPut(want)) {
		t.Fatalf("error %d, or the bytes are changed", err)
	}
	clear(b)
	clear(other.Keys)
	clear(other.Frauds)
	if !same(d, want) {
		t.Error("the digest changes with its bytes, or with another one")
	}
}

// P19.3

func TestWhatIsPutIsGot(t *testing.T) {
	r := rand.New(rand.NewSource(7))
	for keys := range 33 {
		for frauds := range 33 {
			want := randomDigest(r, keys, frauds)
			b, err := digest.Put(want)
			if err != api.OK {
				t.Fatalf("%d keys, %d frauds: error %d", keys, frauds, err)
			}
			expectGot(t, "put and got", b, want)
		}
	}
}

// The same keys and proofs may be there twice, in any order: that is kept as it is.
func TestWhatIsPutTwiceIsGotTwice(t *testing.T) {
	want := digest.Digest{Keys: sizes(9, 9, 1, 0, 9), Frauds: ids(5, 0, 5, 1)}
	b, _ := digest.Put(want)
	expectGot(t, "twice", b, want)
}

func TestWhatIsGotIsPutAsTheSameBytes(t *testing.T) {
	r := rand.New(rand.NewSource(8))
	got := 0
	for range 20000 {
		b := make([]byte, r.Intn(220))
		r.Read(b)
		if len(b) > 0 {
			b[0] = byte(r.Intn(5))
			if at := 1 + 40*int(b[0]); at < len(b) {
				b[at] = byte(r.Intn(4))
				if r.Intn(2) == 0 {
					b = b[:min(len(b), at+1+32*int(b[at]))]
				}
			}
		}
		d, err := digest.Get(b)
		if err != api.OK {
			continue
		}
		got++
		expectPut(t, "got and put", d, b)
	}
	if got < 1000 {
		t.Errorf("%d of 20000 were got: too few to tell", got)
	}
}

func TestWhatOneWantsTheOtherOneLacks(t *testing.T) {
	r := rand.New(rand.NewSource(9))
	for range 1000 {
		one, other := counted(0, 20), counted(0, 20)
		r.Shuffle(20, func(a, b int) { one[a], one[b] = one[b], one[a] })
		r.Shuffle(20, func(a, b int) { other[a], other[b] = other[b], other[a] })
		one, other = one[:r.Intn(21)], other[:r.Intn(21)]
		wants := digest.Wants(one, digest.Make(other, nil))
		lacks := digest.Lacks(other, digest.Make(one, nil))
		expectKeys(t, "wanted, and lacked", wants, lacks)
	}
}
