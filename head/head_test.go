package head_test

import (
	"bytes"
	"crypto/sha256"
	"encoding/binary"
	"encoding/hex"
	"math"
	"math/rand"
	"testing"

	"assayer/api"
	"assayer/head"
	"assayer/keys"
	"assayer/lamport"
)

// long is how many bytes a head has.
const long = 4233

// indexPlace is where among them the index stands.
const indexPlace = 40

// told is the hash that digits of 16 tell.
func told(t *testing.T, digits string) api.Hash {
	t.Helper()
	b, err := hex.DecodeString(digits)
	if err != nil || len(b) != len(api.Hash{}) {
		t.Fatalf("%q is no hash", digits)
	}
	return api.Hash(b)
}

// counted is the hash whose bytes are 0 to 31.
func counted() api.Hash {
	var h api.Hash
	for i := range h {
		h[i] = byte(i)
	}
	return h
}

func randomHash(d *rand.Rand) api.Hash {
	var h api.Hash
	d.Read(h[:])
	return h
}

func randomKey(d *rand.Rand) api.Key { return api.Key{Size: d.Uint64(), Root: randomHash(d)} }

// randomHead is a head that nobody signed.
func randomHead(d *rand.Rand, index uint8) head.Head {
	h := head.Head{Key: randomKey(d), Sig: keys.Sig{Index: index}}
	for k := range h.Sig.One {
		h.Sig.One[k] = lamport.Pair{randomHash(d), randomHash(d)}
	}
	for k := range h.Sig.Path {
		h.Sig.Path[k] = randomHash(d)
	}
	return h
}

// plainKey is the bytes of a key behind a text.
func plainKey(text string, k api.Key) []byte {
	b := binary.BigEndian.AppendUint64([]byte(text), k.Size)
	return append(b, k.Root[:]...)
}

// plainPut is a head's bytes.
func plainPut(h head.Head) []byte {
	b := append(plainKey("", h.Key), h.Sig.Index)
	for _, pair := range h.Sig.One {
		b = append(append(b, pair[0][:]...), pair[1][:]...)
	}
	for _, step := range h.Sig.Path {
		b = append(b, step[:]...)
	}
	return b
}

// edgeKeys are keys of the least and the greatest numbers, and some between.
func edgeKeys() []api.Key {
	return []api.Key{
		{},
		{Size: 1},
		{Size: 258, Root: counted()},
		{Size: 1 << 32, Root: counted()},
		{Size: 0x0102030405060708, Root: api.Hash{31: 255}},
		{Size: 1 << 63, Root: api.Hash{128}},
		{Size: math.MaxUint64, Root: api.Hash(bytes.Repeat([]byte{255}, 32))},
	}
}

// signer is one of a seed, whose next leaf is next, which may be.
func signer(t *testing.T, seed api.Hash, next int) *keys.Signer {
	t.Helper()
	s, err := keys.NewSigner(seed, next)
	if err != api.OK {
		t.Fatalf("next %d: error %d", next, err)
	}
	return s
}

// signed is a head that a signer signs, which isn't spent.
func signed(t *testing.T, s *keys.Signer, k api.Key) head.Head {
	t.Helper()
	h, err := head.Sign(s, k)
	if err != api.OK {
		t.Fatalf("size %d: error %d", k.Size, err)
	}
	return h
}

// expect verifies a head.
func expect(t *testing.T, name string, public api.Hash, h head.Head, want api.Errno) {
	t.Helper()
	if got := head.Verify(public, h); got != want {
		t.Errorf("%s, size %d, index %d: error %d, want %d", name, h.Key.Size, h.Sig.Index, got, want)
	}
}

// expectRefused gets a head of bytes in vain.
func expectRefused(t *testing.T, name string, b []byte, want api.Errno) {
	t.Helper()
	h, err := head.Get(b)
	if err != want {
		t.Errorf("%s, %d bytes: error %d, want %d", name, len(b), err, want)
	}
	if h != (head.Head{}) {
		t.Errorf("%s, %d bytes: a head beside error %d", name, len(b), err)
	}
}

// expectGot gets a head of bytes.
func expectGot(t *testing.T, name string, b []byte, want head.Head) {
	t.Helper()
	if h, err := head.Get(b); err != api.OK || h != want {
		t.Errorf("%s: error %d, size %d, index %d, or other hashes", name, err, h.Key.Size, h.Sig.Index)
	}
}

// P9.1

func TestBytesOfAKnownKey(t *testing.T) {
	want := "68656164" + "0000000000000102" + "000102030405060708090a0b0c0d0e0f101112131415161718191a1b1c1d1e1f"
	if got := hex.EncodeToString(head.Bytes(api.Key{Size: 258, Root: counted()})); got != want {
		t.Errorf("%s, want %s", got, want)
	}
}

func TestBytesOfAnyKey(t *testing.T) {
	d := rand.New(rand.NewSource(1))
	all := edgeKeys()
	for range 100 {
		all = append(all, randomKey(d))
	}
	for _, k := range all {
		got, want := head.Bytes(k), plainKey("head", k)
		if len(got) != 44 || !bytes.Equal(got, want) {
			t.Errorf("size %d: %x, want %x", k.Size, got, want)
		}
	}
}

func TestSignIsTheSignatureOfBytes(t *testing.T) {
	d := rand.New(rand.NewSource(2))
	for first := range 8 {
		seed := randomHash(d)
		s, plain := signer(t, seed, first), signer(t, seed, first)
		for next := first; next < 8; next++ {
			k := randomKey(d)
			h := signed(t, s, k)
			sig, err := plain.Sign(plainKey("head", k))
			if err != api.OK || h != (head.Head{Key: k, Sig: sig}) {
				t.Errorf("leaf %d: another head, of size %d, index %d", next, h.Key.Size, h.Sig.Index)
			}
			if int(h.Sig.Index) != next || s.Next() != next+1 {
				t.Errorf("leaf %d: index %d, and then %d", next, h.Sig.Index, s.Next())
			}
		}
	}
}

// Hashes of heads that another program signed and put.
func TestSignOfKnownSeeds(t *testing.T) {
	for _, c := range []struct {
		seed api.Hash
		next int
		k    api.Key
		want string
	}{
		{api.Hash{}, 0, api.Key{}, "29f75a671e5adddd0109302270e0d16d73d1bf8ac1b668da9d5f5bbe54c10d53"},
		{counted(), 3, api.Key{Size: 258}, "9ac4cfc106889ca3da196e5e7bd2962e7ffb7aa0f5e01bc10c91ba459c7d5186"},
		{api.Hash{}, 5, api.Key{Size: math.MaxUint64, Root: counted()}, "94a92fb47d7858b537e63f646fe3d2072c936815fb1fa681f6bf11a818beabde"},
		{counted(), 7, api.Key{Size: 1, Root: counted()}, "a14d50d56f57ab74cae88cd68200e5189f69edcf11cfdf2149e21836cd695b29"},
	} {
		h := signed(t, signer(t, c.seed, c.next), c.k)
		if got, want := api.Hash(sha256.Sum256(plainPut(h))), told(t, c.want); got != want {
			t.Errorf("leaf %d, size %d: %x, want %x", c.next, c.k.Size, got, want)
		}
	}
}

func TestSignTellsTheErrorsOfKeys(t *testing.T) {
	spent := signer(t, counted(), 7)
	signed(t, spent, api.Key{Size: 7})
	for name, c := range map[string]struct {
		s    *keys.Signer
		next int
		want api.Errno
	}{
		"nil":           {nil, 0, api.ErrArg},
		"spent":         {spent, 8, api.ErrSpent},
		"spent at once": {signer(t, counted(), 8), 8, api.ErrSpent},
	} {
		for _, k := range edgeKeys() {
			if h, err := head.Sign(c.s, k); err != c.want || h != (head.Head{}) || c.s.Next() != c.next {
				t.Errorf("%s, size %d: error %d, a head of size %d, next %d", name, k.Size, err, h.Key.Size, c.s.Next())
			}
		}
	}
}

func TestVerifyOfKnownRoots(t *testing.T) {
	zero := told(t, "a8a817da508a0006076ef1fcc68c0f7dc541b56388fcca61ba3198f5670dc0e1")
	public := told(t, "250583d58135e7e73328570159063330ae811a658df42aa3ac8a345e4bd4a751")
	for next := range 8 {
		h := signed(t, signer(t, counted(), next), api.Key{Size: 258, Root: counted()})
		expect(t, "its own root", public, h, api.OK)
		expect(t, "another seed's root", zero, h, api.ErrSig)
		expect(t, "no root", api.Hash{}, h, api.ErrSig)
	}
}

func TestVerifyOfAnotherKey(t *testing.T) {
	public := keys.Public(counted())
	k := api.Key{Size: 258, Root: counted()}
	h := signed(t, signer(t, counted(), 2), k)
	for bit := range 64 {
		other := h
		other.Key.Size ^= 1 << bit
		expect(t, "another size", public, other, api.ErrSig)
	}
	for bit := range 256 {
		other := h
		other.Key.Root[bit/8] ^= 1 << (bit % 8)
		expect(t, "another root", public, other, api.ErrSig)
	}
	expect(t, "its own key", public, h, api.OK)
}

func TestVerifyOfAnotherSignature(t *testing.T) {
	public := keys.Public(counted())
	h := signed(t, signer(t, counted(), 2), api.Key{Size: 258, Root: counted()})
	for index := range 256 {
		other := h
		other.Sig.Index = uint8(index)
		want := api.ErrSig
		if index == 2 {
			want = api.OK
		}
		expect(t, "an index", public, other, want)
	}
	for k := range h.Sig.One {
		for v := range h.Sig.One[k] {
			other := h
			other.Sig.One[k][v][k%32] ^= 1
			expect(t, "another half", public, other, api.ErrSig)
		}
	}
	for k := range h.Sig.Path {
		other := h
		other.Sig.Path[k][31] ^= 1
		expect(t, "another path", public, other, api.ErrSig)
	}
	other := signed(t, signer(t, counted(), 2), api.Key{Size: 259, Root: counted()})
	expect(t, "another head's signature", public, head.Head{Key: h.Key, Sig: other.Sig}, api.ErrSig)
	expect(t, "nothing", public, head.Head{}, api.ErrSig)
}

// What is signed begins with the text: a signature of other bytes is no head's.
func TestVerifyOfASignatureOfOtherBytes(t *testing.T) {
	public := keys.Public(counted())
	for _, k := range edgeKeys() {
		whole := plainKey("head", k)
		for name, b := range map[string][]byte{
			"no text":     whole[4:],
			"capitals":    plainKey("HEAD", k),
			"a nought":    append(bytes.Clone(whole), 0),
			"no last one": whole[:len(whole)-1],
			"no root":     whole[:12],
			"nothing":     nil,
		} {
			sig, err := signer(t, counted(), 4).Sign(b)
			if err != api.OK {
				t.Fatalf("%s: error %d", name, err)
			}
			expect(t, name, public, head.Head{Key: k, Sig: sig}, api.ErrSig)
		}
		sig, err := signer(t, counted(), 4).Sign(whole)
		if err != api.OK {
			t.Fatalf("size %d: error %d", k.Size, err)
		}
		expect(t, "the whole", public, head.Head{Key: k, Sig: sig}, api.OK)
	}
}

// Whatever keys takes is taken, of any seed or of none.
func TestVerifyIsThatOfKeys(t *testing.T) {
	d := rand.New(rand.NewSource(3))
	for index := range 256 {
		h := randomHead(d, uint8(index))
		root := climb(h)
		want := api.ErrSig
		if index < 8 {
			want = api.OK
		}
		expect(t, "its own root", root, h, want)
		expect(t, "another root", randomHash(d), h, api.ErrSig)
	}
}

// climb is the root that a head's signature makes, whatever it is.
func climb(h head.Head) api.Hash {
	key := lamport.From(plainKey("head", h.Key), h.Sig.One)
	root := sha256.Sum256(append([]byte{0}, key[:]...))
	for k, step := range h.Sig.Path {
		left, right := root, [32]byte(step)
		if h.Sig.Index>>k&1 == 1 {
			left, right = right, left
		}
		root = sha256.Sum256(append(append([]byte{1}, left[:]...), right[:]...))
	}
	return root
}

// P9.2

func TestPutOfAnyHead(t *testing.T) {
	d := rand.New(rand.NewSource(4))
	all := []head.Head{{}}
	for index := range 256 {
		all = append(all, randomHead(d, uint8(index)))
	}
	for _, k := range edgeKeys() {
		all = append(all, head.Head{Key: k})
	}
	for _, h := range all {
		if got := head.Put(h); len(got) != long || !bytes.Equal(got, plainPut(h)) {
			t.Errorf("size %d, index %d: %d bytes, or others", h.Key.Size, h.Sig.Index, len(got))
		}
	}
}

// Each thing that a head tells stands at its own place.
func TestPutHasEachThingAtItsPlace(t *testing.T) {
	for _, c := range []struct {
		name  string
		h     head.Head
		place int
	}{
		{"the size's lowest byte", head.Head{Key: api.Key{Size: 1}}, 7},
		{"the size's highest byte", head.Head{Key: api.Key{Size: 1 << 56}}, 0},
		{"the root's first byte", head.Head{Key: api.Key{Root: api.Hash{1}}}, 8},
		{"the root's last byte", head.Head{Key: api.Key{Root: api.Hash{31: 1}}}, 39},
		{"the index", head.Head{Sig: keys.Sig{Index: 1}}, 40},
		{"place 0 of the first pair", head.Head{Sig: keys.Sig{One: lamport.Sig{{{1}, {}}}}}, 41},
		{"place 1 of the first pair", head.Head{Sig: keys.Sig{One: lamport.Sig{{{}, {1}}}}}, 73},
		{"place 0 of the second pair", head.Head{Sig: keys.Sig{One: lamport.Sig{1: {{1}, {}}}}}, 105},
		{"place 1 of the last pair", head.Head{Sig: keys.Sig{One: lamport.Sig{63: {{}, {31: 1}}}}}, 4136},
		{"the path's first hash", head.Head{Sig: keys.Sig{Path: [3]api.Hash{{1}}}}, 4137},
		{"the path's last hash", head.Head{Sig: keys.Sig{Path: [3]api.Hash{2: {31: 1}}}}, 4232},
	} {
		want := make([]byte, long)
		want[c.place] = 1
		if got := head.Put(c.h); !bytes.Equal(got, want) {
			t.Errorf("%s: byte 1 is at %d of %d, want %d", c.name, bytes.IndexByte(got, 1), len(got), c.place)
		}
		expectGot(t, c.name, want, c.h)
	}
}

func TestGetOfTooFewBytes(t *testing.T) {
	b := plainPut(randomHead(rand.New(rand.NewSource(5)), 3))
	for n := range long {
		expectRefused(t, "too few", b[:n], api.ErrShort)
	}
	expectRefused(t, "nil", nil, api.ErrShort)
}

func TestGetOfTooManyBytes(t *testing.T) {
	b := plainPut(randomHead(rand.New(rand.NewSource(6)), 3))
	for _, more := range []int{1, 2, 32, long, 100000} {
		expectRefused(t, "too many", append(bytes.Clone(b), make([]byte, more)...), api.ErrLeft)
	}
}

func TestGetOfEachIndex(t *testing.T) {
	h := randomHead(rand.New(rand.NewSource(7)), 0)
	for index := range 256 {
		h.Sig.Index = uint8(index)
		b := plainPut(h)
		if index < 8 {
			expectGot(t, "an index", b, h)
		} else {
			expectRefused(t, "an index", b, api.ErrForm)
		}
	}
}

// Of several errors the first one is told: octet's, ErrLeft, ErrForm.
func TestGetTellsTheFirstError(t *testing.T) {
	for _, index := range []uint8{8, 9, 128, 255} {
		b := plainPut(randomHead(rand.New(rand.NewSource(8)), index))
		for _, n := range []int{0, 8, indexPlace, indexPlace + 1, 1000, long - 1} {
			expectRefused(t, "a wrong index, too few", b[:n], api.ErrShort)
		}
		expectRefused(t, "a wrong index, too many", append(bytes.Clone(b), 0), api.ErrLeft)
		expectRefused(t, "a wrong index", b, api.ErrForm)
	}
}

// Get asks for no signature: that is Verify's.
func TestGetOfAHeadThatNobodySigned(t *testing.T) {
	expectGot(t, "noughts", make([]byte, long), head.Head{})
	h := randomHead(rand.New(rand.NewSource(9)), 7)
	expectGot(t, "hashes of no key", plainPut(h), h)
}

// Rule 3: what is handed in is not changed and not kept, what is answered is new
// memory.
func TestBytesAreLeftAsTheyAre(t *testing.T) {
	h := randomHead(rand.New(rand.NewSource(10)), 6)
	room := append(plainPut(h), 1, 2, 3)
	before := bytes.Clone(room)
	b := room[:long]
	got, err := head.Get(b)
	if err != api.OK || !bytes.Equal(room, before) {
		t.Errorf("error %d, or what was handed in was changed", err)
	}
	clear(room)
	if got != h {
		t.Error("a head hangs on bytes that were changed behind it")
	}
	for name, call := range map[string]func() []byte{
		"Put":   func() []byte { return head.Put(h) },
		"Bytes": func() []byte { return head.Bytes(h.Key) },
	} {
		first, want := call(), call()
		second := call()
		clear(first)
		_ = append(first[:0], 9, 9, 9)
		if !bytes.Equal(second, want) || !bytes.Equal(call(), want) {
			t.Errorf("%s hangs on what it answered ahead", name)
		}
	}
}

// P9.3

func TestWhatIsPutIsGot(t *testing.T) {
	d := rand.New(rand.NewSource(11))
	for n := range 200 {
		h := randomHead(d, uint8(n%8))
		expectGot(t, "what was put", head.Put(h), h)
	}
	for _, k := range edgeKeys() {
		h := head.Head{Key: k}
		expectGot(t, "a key alone", head.Put(h), h)
	}
}

func TestWhatIsGotIsPutAsTheSameBytes(t *testing.T) {
	d := rand.New(rand.NewSource(12))
	for n := range 200 {
		b := make([]byte, long)
		d.Read(b)
		b[indexPlace] = byte(n % 8)
		h, err := head.Get(b)
		if err != api.OK || !bytes.Equal(head.Put(h), b) {
			t.Errorf("round %d: error %d, or other bytes", n, err)
		}
	}
}

func TestAHeadIsVerifiedBehindPutAndGet(t *testing.T) {
	d := rand.New(rand.NewSource(13))
	for _, k := range edgeKeys() {
		seed := randomHash(d)
		b := head.Put(signed(t, signer(t, seed, d.Intn(8)), k))
		if len(b) != long {
			t.Errorf("size %d: %d bytes", k.Size, len(b))
		}
		h, err := head.Get(b)
		if err != api.OK || h.Key != k {
			t.Errorf("size %d: error %d, size %d", k.Size, err, h.Key.Size)
		}
		expect(t, "what was signed, put and got", keys.Public(seed), h, api.OK)
	}
}

// Rule 4: the same calls have the same answers, whatever was called between.
func TestHeadsKnowNothingOfOneAnother(t *testing.T) {
	k := api.Key{Size: 258, Root: counted()}
	first := signed(t, signer(t, counted(), 1), k)
	b := head.Put(first)
	expectRefused(t, "too few between", b[:100], api.ErrShort)
	head.Sign(nil, k)
	head.Verify(api.Hash{}, first)
	if signed(t, signer(t, counted(), 1), k) != first || !bytes.Equal(head.Put(first), b) {
		t.Error("another head, or other bytes")
	}
	expectGot(t, "once more", b, first)
}
