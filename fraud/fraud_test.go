package fraud_test

import (
	"bytes"
	"crypto/sha256"
	"encoding/binary"
	"encoding/hex"
	"math"
	"math/rand"
	"slices"
	"testing"

	"assayer/api"
	"assayer/fraud"
	"assayer/head"
	"assayer/keys"
	"assayer/lamport"
)

const (
	one        = 4233         // bytes of a head
	two        = 8466         // bytes of a proof, or of a record
	indexPlace = 40           // where among a head's bytes the index stands
	most       = one*2 + 5000 // more bytes than any of both has
)

// told is the hash that digits of 16 tell.
func told(t *testing.T, digits string) api.Hash {
	t.Helper()
	b, err := hex.DecodeString(digits)
	if err != nil || len(b) != len(api.Hash{}) {
		t.Fatalf("%q is no hash", digits)
	}
	return api.Hash(b)
}

// counted is the hash whose bytes are 0 to 31.
func counted() api.Hash {
	var h api.Hash
	for i := range h {
		h[i] = byte(i)
	}
	return h
}

// filled is the hash whose bytes are all the same.
func filled(c byte) api.Hash { return api.Hash(bytes.Repeat([]byte{c}, 32)) }

func randomHash(d *rand.Rand) api.Hash {
	var h api.Hash
	d.Read(h[:])
	return h
}

// unsigned is a head of a key that nobody signed, and whose hashes are all drawn.
func unsigned(d *rand.Rand, size uint64, root api.Hash) head.Head {
	h := head.Head{Key: api.Key{Size: size, Root: root}, Sig: keys.Sig{Index: uint8(d.Intn(8))}}
	for k := range h.Sig.One {
		h.Sig.One[k] = lamport.Pair{randomHash(d), randomHash(d)}
	}
	for k := range h.Sig.Path {
		h.Sig.Path[k] = randomHash(d)
	}
	return h
}

// signed is a head that a seed signs with a leaf.
func signed(t *testing.T, seed api.Hash, leaf int, size uint64, root api.Hash) head.Head {
	t.Helper()
	s, err := keys.NewSigner(seed, leaf)
	if err != api.OK {
		t.Fatalf("leaf %d: error %d", leaf, err)
	}
	h, err := head.Sign(s, api.Key{Size: size, Root: root})
	if err != api.OK {
		t.Fatalf("leaf %d, size %d: error %d", leaf, size, err)
	}
	return h
}

// fits tells whether two heads, in this order, are a proof, by the document's words.
func fits(a, b head.Head) bool {
	return a.Key.Size == b.Key.Size && bytes.Compare(a.Key.Root[:], b.Key.Root[:]) < 0
}

// doubtful tells whether two heads, in this order, are a record, by the document's words.
func doubtful(old, now head.Head) bool {
	return old.Key.Size > 0 && old.Key.Size < now.Key.Size
}

// sizes are the least and the greatest numbers, and some between.
func sizes() []uint64 {
	return []uint64{0, 1, 2, 255, 256, 258, 1 << 32, 1<<63 - 1, 1 << 63, math.MaxUint64 - 1, math.MaxUint64}
}

// roots are roots that rise, byte by byte.
func roots() []api.Hash {
	return []api.Hash{{}, {31: 1}, {31: 255}, {15: 1}, counted(), {1}, {1, 255}, {2}, filled(127), {128}, filled(254), filled(255)}
}

// some are heads of each of these sizes and roots, that nobody signed.
func some() []head.Head {
	d := rand.New(rand.NewSource(100))
	var l []head.Head
	for _, size := range sizes() {
		for _, root := range roots() {
			l = append(l, unsigned(d, size, root))
		}
	}
	return l
}

// plainBytes is what is signed of a key.
func plainBytes(k api.Key) []byte {
	return append(binary.BigEndian.AppendUint64([]byte("head"), k.Size), k.Root[:]...)
}

// plainPut is the bytes of heads, one behind the other.
func plainPut(l ...head.Head) []byte {
	var b []byte
	for _, h := range l {
		b = append(binary.BigEndian.AppendUint64(b, h.Key.Size), h.Key.Root[:]...)
		b = append(b, h.Sig.Index)
		for _, halves := range h.Sig.One {
			b = append(append(b, halves[0][:]...), halves[1][:]...)
		}
		for _, step := range h.Sig.Path {
			b = append(b, step[:]...)
		}
	}
	return b
}

// expectMade makes a proof of two heads, which is of first and second.
func expectMade(t *testing.T, a, b, first, second head.Head) {
	t.Helper()
	p, err := fraud.Make(a, b)
	if err != api.OK || p != (fraud.Proof{A: first, B: second}) {
		t.Errorf("Make of %v and %v: error %d, or other heads: %v, %v", a.Key, b.Key, err, p.A.Key, p.B.Key)
	}
}

// expectNotMade makes a proof of two heads in vain.
func expectNotMade(t *testing.T, a, b head.Head) {
	t.Helper()
	p, err := fraud.Make(a, b)
	if err != api.ErrArg || p != (fraud.Proof{}) {
		t.Errorf("Make of %v and %v: error %d, or heads beside it", a.Key, b.Key, err)
	}
}

// expectDoubt makes a record of two heads.
func expectDoubt(t *testing.T, old, now head.Head) {
	t.Helper()
	c, err := fraud.Doubt(old, now)
	if err != api.OK || c != (fraud.Challenge{Old: old, Now: now}) {
		t.Errorf("Doubt of %v and %v: error %d, or other heads: %v, %v", old.Key, now.Key, err, c.Old.Key, c.Now.Key)
	}
}

// expectNoDoubt makes a record of two heads in vain.
func expectNoDoubt(t *testing.T, old, now head.Head) {
	t.Helper()
	c, err := fraud.Doubt(old, now)
	if err != api.ErrArg || c != (fraud.Challenge{}) {
		t.Errorf("Doubt of %v and %v: error %d, or heads beside it", old.Key, now.Key, err)
	}
}

// expectVerify verifies a proof of two heads.
func expectVerify(t *testing.T, name string, public api.Hash, a, b head.Head, want api.Errno) {
	t.Helper()
	if got := fraud.Verify(public, fraud.Proof{A: a, B: b}); got != want {
		t.Errorf("%s, of %v and %v: Verify: error %d, want %d", name, a.Key, b.Key, got, want)
	}
}

// expectCheck checks a record of two heads.
func expectCheck(t *testing.T, name string, public api.Hash, old, now head.Head, want api.Errno) {
	t.Helper()
	if got := fraud.Check(public, fraud.Challenge{Old: old, Now: now}); got != want {
		t.Errorf("%s, of %v and %v: Check: error %d, want %d", name, old.Key, now.Key, got, want)
	}
}

// expectGot gets a proof of bytes.
func expectGot(t *testing.T, name string, b []byte, want fraud.Proof) {
	t.Helper()
	if p, err := fraud.Get(b); err != api.OK || p != want {
		t.Errorf("%s: Get of %d bytes: error %d, or other heads: %v, %v", name, len(b), err, p.A.Key, p.B.Key)
	}
}

// expectGotDoubt gets a record of bytes.
func expectGotDoubt(t *testing.T, name string, b []byte, want fraud.Challenge) {
	t.Helper()
	if c, err := fraud.GetDoubt(b); err != api.OK || c != want {
		t.Errorf("%s: GetDoubt of %d bytes: error %d, or other heads: %v, %v", name, len(b), err, c.Old.Key, c.Now.Key)
	}
}

// expectNotGot gets a proof of bytes in vain.
func expectNotGot(t *testing.T, name string, b []byte, want api.Errno) {
	t.Helper()
	if p, err := fraud.Get(b); err != want || p != (fraud.Proof{}) {
		t.Errorf("%s: Get of %d bytes: error %d, want %d, or heads beside it", name, len(b), err, want)
	}
}

// expectNoDoubtGot gets a record of bytes in vain.
func expectNoDoubtGot(t *testing.T, name string, b []byte, want api.Errno) {
	t.Helper()
	if c, err := fraud.GetDoubt(b); err != want || c != (fraud.Challenge{}) {
		t.Errorf("%s: GetDoubt of %d bytes: error %d, want %d, or heads beside it", name, len(b), err, want)
	}
}

// expectRefused gets a proof, and a record, of bytes in vain.
func expectRefused(t *testing.T, name string, b []byte, want api.Errno) {
	t.Helper()
	expectNotGot(t, name, b, want)
	expectNoDoubtGot(t, name, b, want)
}

// P15.1

func TestMakeOfEachTwo(t *testing.T) {
	l := some()
	for _, a := range l {
		for _, b := range l {
			switch {
			case fits(a, b):
				expectMade(t, a, b, a, b)
			case fits(b, a):
				expectMade(t, a, b, b, a)
			default:
				expectNotMade(t, a, b)
			}
		}
	}
}

// The first byte in which two roots differ tells which head is ahead, whatever is
// behind it.
func TestMakeByEachByteOfARoot(t *testing.T) {
	d := rand.New(rand.NewSource(1))
	for place := range 32 {
		low, high := counted(), counted()
		low[place], high[place] = 127, 128
		for behind := place + 1; behind < 32; behind++ {
			low[behind] = 255
		}
		a, b := unsigned(d, 9, low), unsigned(d, 9, high)
		expectMade(t, a, b, a, b)
		expectMade(t, b, a, a, b)
	}
}

// Sizes that differ in one bit are two sizes.
func TestMakeByEachBitOfASize(t *testing.T) {
	d := rand.New(rand.NewSource(2))
	a, b := unsigned(d, 0x0123456789abcdef, counted()), unsigned(d, 0x0123456789abcdef, filled(7))
	for bit := range 64 {
		other := b
		other.Key.Size ^= 1 << bit
		expectNotMade(t, a, other)
		expectNotMade(t, other, a)
	}
	expectMade(t, b, a, a, b)
}

// Two signatures of one key are no fraud.
func TestMakeOfOneKey(t *testing.T) {
	d := rand.New(rand.NewSource(3))
	for _, size := range sizes() {
		a, b := unsigned(d, size, counted()), unsigned(d, size, counted())
		expectNotMade(t, a, b)
		expectNotMade(t, b, a)
		expectNotMade(t, a, a)
	}
	expectNotMade(t, head.Head{}, head.Head{})
}

func TestVerifyOfASignedProof(t *testing.T) {
	d := rand.New(rand.NewSource(4))
	for _, size := range sizes() {
		seed := randomHash(d)
		public := keys.Public(seed)
		low, high := signed(t, seed, d.Intn(8), size, api.Hash{1}), signed(t, seed, d.Intn(8), size, api.Hash{2})
		p, err := fraud.Make(high, low)
		if err != api.OK {
			t.Fatalf("size %d: error %d", size, err)
		}
		if err := fraud.Verify(public, p); err != api.OK {
			t.Errorf("size %d: what was made: error %d", size, err)
		}
		expectVerify(t, "in order", public, low, high, api.OK)
		expectVerify(t, "another root", keys.Public(filled(9)), low, high, api.ErrSig)
		expectVerify(t, "no root", api.Hash{}, low, high, api.ErrSig)
	}
}

// A proof has its heads in order: the others are none, though both are signed.
func TestVerifyOfSignedHeadsThatAreNoProof(t *testing.T) {
	public := keys.Public(counted())
	a := signed(t, counted(), 0, 5, api.Hash{1})
	b := signed(t, counted(), 1, 5, api.Hash{2})
	again := signed(t, counted(), 2, 5, api.Hash{1})
	greater := signed(t, counted(), 3, 6, api.Hash{2})
	expectVerify(t, "a proof", public, a, b, api.OK)
	expectVerify(t, "a proof", public, again, b, api.OK)
	expectVerify(t, "in no order", public, b, a, api.ErrForm)
	expectVerify(t, "one head twice", public, a, a, api.ErrForm)
	expectVerify(t, "one key twice", public, a, again, api.ErrForm)
	expectVerify(t, "one key twice", public, again, a, api.ErrForm)
	expectVerify(t, "two sizes", public, a, greater, api.ErrForm)
	expectVerify(t, "two sizes", public, greater, a, api.ErrForm)
	expectVerify(t, "two sizes of one root", public, b, greater, api.ErrForm)
}

// Whatever isn't signed is refused by ErrForm, unless it has a proof's form.
func TestVerifyOfEachTwo(t *testing.T) {
	public := keys.Public(counted())
	l := append(some(), head.Head{})
	for _, a := range l[:40] {
		for _, b := range l {
			if !fits(a, b) {
				expectVerify(t, "no form", public, a, b, api.ErrForm)
			}
		}
	}
	for i := range roots() {
		if i > 0 {
			expectVerify(t, "no signature", public, l[i-1], l[i], api.ErrSig)
		}
	}
}

// Both heads have to be signed, and each as it is.
func TestVerifyAsksForBothSignatures(t *testing.T) {
	d := rand.New(rand.NewSource(5))
	public := keys.Public(counted())
	a := signed(t, counted(), 2, 7, api.Hash{1})
	b := signed(t, counted(), 6, 7, api.Hash{2})
	for name, other := range map[string]head.Head{
		"nobody's":       unsigned(d, 7, api.Hash{1, 1}),
		"another seed's": signed(t, filled(3), 2, 7, api.Hash{1, 1}),
		"another root's": {Key: api.Key{Size: 7, Root: api.Hash{1, 1}}, Sig: a.Sig},
		"another size's": {Key: api.Key{Size: 7, Root: api.Hash{1, 1}}, Sig: signed(t, counted(), 2, 8, api.Hash{1, 1}).Sig},
		"no":             {Key: api.Key{Size: 7, Root: api.Hash{1, 1}}},
	} {
		expectVerify(t, name+" signature ahead", public, other, b, api.ErrSig)
		expectVerify(t, name+" signature behind", public, a, other, api.ErrSig)
	}
	for index := range 256 {
		if index != 2 && index != 6 {
			otherA, otherB := a, b
			otherA.Sig.Index, otherB.Sig.Index = uint8(index), uint8(index)
			expectVerify(t, "another leaf ahead", public, otherA, b, api.ErrSig)
			expectVerify(t, "another leaf behind", public, a, otherB, api.ErrSig)
		}
	}
	expectVerify(t, "a proof", public, a, b, api.OK)
}

// One leaf that signs twice signs both.
func TestVerifyOfOneLeaf(t *testing.T) {
	public := keys.Public(counted())
	for leaf := range 8 {
		a, b := signed(t, counted(), leaf, 3, api.Hash{1}), signed(t, counted(), leaf, 3, api.Hash{2})
		expectVerify(t, "one leaf", public, a, b, api.OK)
	}
}

// Names that another program told.
func TestIdOfKnownKeys(t *testing.T) {
	for _, c := range []struct {
		a, b api.Key
		want string
	}{
		{api.Key{}, api.Key{}, "4f7240f783fa1e0ae97843a0fe6726bdf365a0414bf3c3ec6f50f02a66dc03f3"},
		{api.Key{Size: 258}, api.Key{Size: 258, Root: counted()}, "1911a18f2188e80b9b5f4c8990f97e274447f4ecb237b5595faba6b557d28105"},
		{api.Key{Size: 258, Root: counted()}, api.Key{Size: 258}, "f3115c65f0b7081ecb361854e9d79d9c76ca8ce7c592aabe05aa914d5db3a68d"},
		{api.Key{Size: math.MaxUint64, Root: counted()}, api.Key{Size: math.MaxUint64, Root: filled(255)}, "9f0f70ce0c0ea4fa9ba0957edc0e8457b8d8b7e49214b952d85c749cd7eafa2e"},
	} {
		p := fraud.Proof{A: head.Head{Key: c.a}, B: head.Head{Key: c.b}}
		if got, want := fraud.Id(p), told(t, c.want); got != want {
			t.Errorf("Id of %v and %v: %x, want %x", c.a, c.b, got, want)
		}
	}
}

// Whatever a proof is, its name is of its keys alone, as they stand.
func TestIdOfAnyProof(t *testing.T) {
	d := rand.New(rand.NewSource(6))
	seen := map[api.Hash]fraud.Proof{}
	for range 200 {
		p := fraud.Proof{A: unsigned(d, d.Uint64(), randomHash(d)), B: unsigned(d, d.Uint64(), randomHash(d))}
		if d.Intn(2) == 0 {
			p.B.Key.Size = p.A.Key.Size
		}
		got := fraud.Id(p)
		if want := api.Hash(sha256.Sum256(slices.Concat(plainBytes(p.A.Key), plainBytes(p.B.Key)))); got != want {
			t.Errorf("Id of %v and %v: %x, want %x", p.A.Key, p.B.Key, got, want)
		}
		bare := fraud.Proof{A: head.Head{Key: p.A.Key}, B: head.Head{Key: p.B.Key}}
		if fraud.Id(bare) != got {
			t.Errorf("Id of %v and %v hangs on signatures", p.A.Key, p.B.Key)
		}
		if other, ok := seen[got]; ok {
			t.Errorf("%v and %v have the name of %v and %v", p.A.Key, p.B.Key, other.A.Key, other.B.Key)
		}
		seen[got] = p
	}
}

// P15.2

func TestDoubtOfEachTwo(t *testing.T) {
	l := some()
	for _, old := range l {
		for _, now := range l {
			if doubtful(old, now) {
				expectDoubt(t, old, now)
			} else {
				expectNoDoubt(t, old, now)
			}
		}
	}
}

// A size of 0 has nothing to go on from, a size of 1 has.
func TestDoubtOfTheLeastSizes(t *testing.T) {
	d := rand.New(rand.NewSource(7))
	root := randomHash(d)
	zero, one := unsigned(d, 0, root), unsigned(d, 1, root)
	two, top := unsigned(d, 2, root), unsigned(d, math.MaxUint64, root)
	for _, now := range []head.Head{zero, one, two, top} {
		expectNoDoubt(t, zero, now)
	}
	expectNoDoubt(t, one, zero)
	expectNoDoubt(t, one, one)
	expectDoubt(t, one, two)
	expectDoubt(t, one, top)
	expectNoDoubt(t, two, one)
	expectDoubt(t, two, top)
	expectNoDoubt(t, top, one)
	expectNoDoubt(t, top, top)
	expectNoDoubt(t, head.Head{}, head.Head{})
}

func TestCheckOfASignedRecord(t *testing.T) {
	d := rand.New(rand.NewSource(8))
	for i, size := range sizes()[1:] {
		for _, less := range sizes()[1 : i+1] {
			seed := randomHash(d)
			public := keys.Public(seed)
			old, now := signed(t, seed, d.Intn(8), less, randomHash(d)), signed(t, seed, d.Intn(8), size, randomHash(d))
			expectCheck(t, "a record", public, old, now, api.OK)
			expectCheck(t, "another root", keys.Public(filled(9)), old, now, api.ErrSig)
			expectCheck(t, "no root", api.Hash{}, old, now, api.ErrSig)
			expectCheck(t, "the other way", public, now, old, api.ErrForm)
		}
	}
}

func TestCheckOfSignedHeadsThatAreNoRecord(t *testing.T) {
	public := keys.Public(counted())
	zero := signed(t, counted(), 0, 0, api.Hash{})
	a := signed(t, counted(), 1, 5, api.Hash{1})
	b := signed(t, counted(), 2, 5, api.Hash{2})
	c := signed(t, counted(), 3, 6, api.Hash{1})
	expectCheck(t, "a record", public, a, c, api.OK)
	expectCheck(t, "a record whose root is lower", public, b, c, api.OK)
	expectCheck(t, "the other way", public, c, a, api.ErrForm)
	expectCheck(t, "one size", public, a, b, api.ErrForm)
	expectCheck(t, "one head twice", public, a, a, api.ErrForm)
	expectCheck(t, "from nothing", public, zero, a, api.ErrForm)
	expectCheck(t, "to nothing", public, a, zero, api.ErrForm)
}

func TestCheckOfEachTwo(t *testing.T) {
	public := keys.Public(counted())
	l := append(some(), head.Head{})
	for _, old := range l {
		for _, now := range l[:40] {
			if !doubtful(old, now) {
				expectCheck(t, "no form", public, old, now, api.ErrForm)
			}
		}
	}
	for i := range len(roots()) {
		from := l[len(roots())+i]
		expectCheck(t, "no signature", public, from, l[2*len(roots())+i], api.ErrSig)
	}
}

func TestCheckAsksForBothSignatures(t *testing.T) {
	d := rand.New(rand.NewSource(9))
	public := keys.Public(counted())
	old := signed(t, counted(), 2, 7, api.Hash{1})
	now := signed(t, counted(), 6, 9, api.Hash{2})
	for name, other := range map[string]head.Head{
		"nobody's":       unsigned(d, 8, api.Hash{1}),
		"another seed's": signed(t, filled(3), 2, 8, api.Hash{1}),
		"another size's": {Key: api.Key{Size: 8, Root: api.Hash{1}}, Sig: old.Sig},
		"another root's": {Key: api.Key{Size: 8, Root: api.Hash{1}}, Sig: signed(t, counted(), 2, 8, api.Hash{2}).Sig},
		"no":             {Key: api.Key{Size: 8, Root: api.Hash{1}}},
	} {
		expectCheck(t, name+" signature ahead", public, other, now, api.ErrSig)
		expectCheck(t, name+" signature behind", public, old, other, api.ErrSig)
	}
	expectCheck(t, "a record", public, old, now, api.OK)
}

// P15.3

func TestPutOfAnyTwo(t *testing.T) {
	d := rand.New(rand.NewSource(10))
	all := []head.Head{{}, signed(t, counted(), 4, 3, counted())}
	for range 30 {
		h := unsigned(d, d.Uint64(), randomHash(d))
		h.Sig.Index = uint8(d.Intn(256))
		all = append(all, h)
	}
	for _, a := range all {
		for _, b := range all {
			want := plainPut(a, b)
			if got := fraud.Put(fraud.Proof{A: a, B: b}); len(got) != two || !bytes.Equal(got, want) {
				t.Errorf("Put of %v and %v: %d bytes, or others", a.Key, b.Key, len(got))
			}
			if got := fraud.PutDoubt(fraud.Challenge{Old: a, Now: b}); len(got) != two || !bytes.Equal(got, want) {
				t.Errorf("PutDoubt of %v and %v: %d bytes, or others", a.Key, b.Key, len(got))
			}
		}
	}
}

// Hashes of bytes that another program signed and put.
func TestPutOfKnownHeads(t *testing.T) {
	p := fraud.Proof{A: signed(t, counted(), 0, 258, api.Hash{}), B: signed(t, counted(), 3, 258, counted())}
	want := told(t, "208eb36ddfce5f59964ea7304184d43498a49043067252a5b8df0ba9ad75b146")
	if got := api.Hash(sha256.Sum256(fraud.Put(p))); got != want {
		t.Errorf("Put: %x, want %x", got, want)
	}
	c := fraud.Challenge{Old: signed(t, counted(), 7, 1, counted()), Now: signed(t, counted(), 5, math.MaxUint64, api.Hash{})}
	want = told(t, "64d6bfedf4a7634736b1ce067ee7b4d6a5c8e2a6f5e74fa8fcde7f83f43a4cef")
	if got := api.Hash(sha256.Sum256(fraud.PutDoubt(c))); got != want {
		t.Errorf("PutDoubt: %x, want %x", got, want)
	}
	public := told(t, "250583d58135e7e73328570159063330ae811a658df42aa3ac8a345e4bd4a751")
	expectVerify(t, "the proof", public, p.A, p.B, api.OK)
	expectCheck(t, "the record", public, c.Old, c.Now, api.OK)
}

// drawnProof is two heads that nobody signed, as a proof has them.
func drawnProof(d *rand.Rand) fraud.Proof {
	size := d.Uint64()
	a, b := unsigned(d, size, randomHash(d)), unsigned(d, size, randomHash(d))
	if !fits(a, b) {
		a, b = b, a
	}
	return fraud.Proof{A: a, B: b}
}

// drawnDoubt is two heads that nobody signed, as a record has them.
func drawnDoubt(d *rand.Rand) fraud.Challenge {
	size := 1 + d.Uint64()>>1
	return fraud.Challenge{Old: unsigned(d, size, randomHash(d)), Now: unsigned(d, size+1+d.Uint64()>>1, randomHash(d))}
}

func TestGetOfEachNumberOfBytes(t *testing.T) {
	d := rand.New(rand.NewSource(11))
	p, c := drawnProof(d), drawnDoubt(d)
	proof, doubt := make([]byte, most), make([]byte, most)
	copy(proof, plainPut(p.A, p.B))
	copy(doubt, plainPut(c.Old, c.Now))
	for n := range two {
		expectNotGot(t, "too few", proof[:n], api.ErrShort)
		expectNoDoubtGot(t, "too few", doubt[:n], api.ErrShort)
	}
	expectGot(t, "just so many", proof[:two], p)
	expectGotDoubt(t, "just so many", doubt[:two], c)
	for _, n := range []int{two + 1, two + 2, two + 32, one * 3, most} {
		expectNotGot(t, "too many", proof[:n], api.ErrLeft)
		expectNoDoubtGot(t, "too many", doubt[:n], api.ErrLeft)
	}
	expectRefused(t, "nil", nil, api.ErrShort)
	expectRefused(t, "empty", []byte{}, api.ErrShort)
}

// An index that there isn't is head.Get's ErrForm, in either head.
func TestGetOfEachIndex(t *testing.T) {
	d := rand.New(rand.NewSource(12))
	p, c := drawnProof(d), drawnDoubt(d)
	for index := range 256 {
		i := uint8(index)
		for _, place := range []int{indexPlace, one + indexPlace} {
			otherP, otherC := p, c
			if place == indexPlace {
				otherP.A.Sig.Index, otherC.Old.Sig.Index = i, i
			} else {
				otherP.B.Sig.Index, otherC.Now.Sig.Index = i, i
			}
			proof, doubt := plainPut(otherP.A, otherP.B), plainPut(otherC.Old, otherC.Now)
			if index < 8 {
				expectGot(t, "an index", proof, otherP)
				expectGotDoubt(t, "an index", doubt, otherC)
			} else {
				expectNotGot(t, "an index", proof, api.ErrForm)
				expectNoDoubtGot(t, "an index", doubt, api.ErrForm)
			}
		}
	}
}

// Of several errors the first one is told: that of the first head, that of the other
// bytes, ErrForm of both.
func TestGetTellsTheFirstError(t *testing.T) {
	d := rand.New(rand.NewSource(13))
	a, b := unsigned(d, 5, api.Hash{1}), unsigned(d, 5, api.Hash{2})
	off, offToo := a, b
	off.Sig.Index, offToo.Sig.Index = 8, 255
	expectRefused(t, "the first one off, too few at once", plainPut(off, b)[:one-1], api.ErrShort)
	expectRefused(t, "the first one off, no more", plainPut(off), api.ErrForm)
	expectRefused(t, "the first one off, too few behind", plainPut(off, b)[:two-1], api.ErrForm)
	expectRefused(t, "the first one off, too many", append(plainPut(off, b), 0), api.ErrForm)
	expectRefused(t, "the second one off, too few", plainPut(a, offToo)[:two-1], api.ErrShort)
	expectRefused(t, "the second one off, too many", append(plainPut(a, offToo), 0), api.ErrLeft)
	expectRefused(t, "no form, too few", plainPut(a, a)[:two-1], api.ErrShort)
	expectRefused(t, "no form, too many", append(plainPut(a, a), 0), api.ErrLeft)
	expectRefused(t, "no form", plainPut(a, a), api.ErrForm)
	expectRefused(t, "one head alone", plainPut(a), api.ErrShort)
	expectRefused(t, "three heads", plainPut(a, b, b), api.ErrLeft)
}

// Whatever is got is as Make, or Doubt, of its heads has it.
func TestGetOfEachTwo(t *testing.T) {
	l := append(some()[:72], some()[120:]...)
	for _, a := range l {
		for _, b := range l {
			both := plainPut(a, b)
			if fits(a, b) {
				expectGot(t, "in order", both, fraud.Proof{A: a, B: b})
			} else {
				expectNotGot(t, "no proof", both, api.ErrForm)
			}
			if doubtful(a, b) {
				expectGotDoubt(t, "in order", both, fraud.Challenge{Old: a, Now: b})
			} else {
				expectNoDoubtGot(t, "no record", both, api.ErrForm)
			}
		}
	}
}

// Get asks for no signature: that is Verify's, and Check's.
func TestGetOfNoughts(t *testing.T) {
	b := make([]byte, two)
	expectRefused(t, "noughts", b, api.ErrForm)
	b[one+39] = 1
	expectGot(t, "another root", b, fraud.Proof{B: head.Head{Key: api.Key{Root: api.Hash{31: 1}}}})
	b[one+7] = 2
	expectRefused(t, "a size of 0", b, api.ErrForm)
	b[7] = 1
	expectGotDoubt(t, "sizes of 1 and 2", b, fraud.Challenge{
		Old: head.Head{Key: api.Key{Size: 1}},
		Now: head.Head{Key: api.Key{Size: 2, Root: api.Hash{31: 1}}},
	})
}

// Rule 3: what is handed in is not changed and not kept, what is answered is new
// memory.
func TestBytesAreLeftAsTheyAre(t *testing.T) {
	d := rand.New(rand.NewSource(14))
	p, c := drawnProof(d), drawnDoubt(d)
	for name, call := range map[string]func() []byte{
		"Put":      func() []byte { return fraud.Put(p) },
		"PutDoubt": func() []byte { return fraud.PutDoubt(c) },
	} {
		first, want := call(), call()
		second := call()
		clear(first)
		_ = append(first[:0], 9, 9, 9)
		if !bytes.Equal(second, want) || !bytes.Equal(call(), want) {
			t.Errorf("%s hangs on what it answered ahead", name)
		}
	}
	proof, doubt := append(plainPut(p.A, p.B), 1, 2, 3), append(plainPut(c.Old, c.Now), 1, 2, 3)
	wasProof, wasDoubt := bytes.Clone(proof), bytes.Clone(doubt)
	gotProof, err := fraud.Get(proof[:two])
	gotDoubt, errDoubt := fraud.GetDoubt(doubt[:two])
	if err != api.OK || errDoubt != api.OK || !bytes.Equal(proof, wasProof) || !bytes.Equal(doubt, wasDoubt) {
		t.Errorf("errors %d, %d, or what was handed in was changed", err, errDoubt)
	}
	clear(proof)
	clear(doubt)
	if gotProof != p || gotDoubt != c {
		t.Error("what was got hangs on bytes that were changed behind it")
	}
}

// P15.4

func TestWhatIsPutIsGot(t *testing.T) {
	d := rand.New(rand.NewSource(15))
	for range 200 {
		p, c := drawnProof(d), drawnDoubt(d)
		expectGot(t, "what was put", fraud.Put(p), p)
		expectGotDoubt(t, "what was put", fraud.PutDoubt(c), c)
	}
}

func TestWhatIsGotIsPutAsTheSameBytes(t *testing.T) {
	d := rand.New(rand.NewSource(16))
	for range 200 {
		b := make([]byte, two)
		d.Read(b)
		b[indexPlace], b[one+indexPlace] = byte(d.Intn(8)), byte(d.Intn(8))
		b[0], b[one] = 1, 2
		c, err := fraud.GetDoubt(b)
		if err != api.OK || !bytes.Equal(fraud.PutDoubt(c), b) {
			t.Errorf("a record: error %d, or other bytes", err)
		}
		copy(b[one:], b[:8])
		b[8], b[one+8] = 1, 2
		p, err := fraud.Get(b)
		if err != api.OK || !bytes.Equal(fraud.Put(p), b) {
			t.Errorf("a proof: error %d, or other bytes", err)
		}
	}
}

// What was made of signed heads, in whatever order, is verified behind put and get.
func TestAProofStandsByItself(t *testing.T) {
	d := rand.New(rand.NewSource(17))
	for _, size := range sizes() {
		seed := randomHash(d)
		public := keys.Public(seed)
		p, err := fraud.Make(signed(t, seed, 0, size, randomHash(d)), signed(t, seed, 1, size, randomHash(d)))
		if err != api.OK {
			t.Fatalf("size %d: error %d", size, err)
		}
		got, err := fraud.Get(fraud.Put(p))
		if err != api.OK || fraud.Verify(public, got) != api.OK || fraud.Id(got) != fraud.Id(p) {
			t.Errorf("size %d: error %d, or it isn't verified, or has another name", size, err)
		}
		if swapped, err := fraud.Make(p.B, p.A); err != api.OK || swapped != p {
			t.Errorf("size %d: error %d, or another proof of the same heads", size, err)
		}
	}
}

// A log that signs one root of each size is never proved to, whatever is made of
// what it signed, and of what it didn't.
func TestNoFalseAccusation(t *testing.T) {
	d := rand.New(rand.NewSource(18))
	seed := randomHash(d)
	public := keys.Public(seed)
	var said, all []head.Head
	for leaf, size := range []uint64{0, 1, 2, 3, 7, 1 << 40, math.MaxUint64} {
		said = append(said, signed(t, seed, leaf, size, randomHash(d)))
	}
	for i, h := range said {
		again := signed(t, seed, (i+3)%8, h.Key.Size, h.Key.Root)
		other := h
		other.Key.Root[d.Intn(32)] ^= 1 << d.Intn(8)
		next := said[(i+1)%len(said)]
		moved := head.Head{Key: api.Key{Size: h.Key.Size, Root: next.Key.Root}, Sig: next.Sig}
		all = append(all, h, again, other, moved, signed(t, filled(1), i, h.Key.Size, filled(200)))
	}
	for _, a := range all {
		for _, b := range all {
			if fraud.Verify(public, fraud.Proof{A: a, B: b}) == api.OK {
				t.Errorf("%v and %v: a proof against who signed one root of each size", a.Key, b.Key)
			}
			if p, err := fraud.Make(a, b); err == api.OK && fraud.Verify(public, p) != api.ErrSig {
				t.Errorf("%v and %v: no ErrSig of what was made", a.Key, b.Key)
			}
		}
	}
}

// What is verified has two heads that are signed, each of which alone is taken.
func TestWhatIsVerifiedIsSigned(t *testing.T) {
	d := rand.New(rand.NewSource(19))
	public := keys.Public(counted())
	var l []head.Head
	for leaf := range 8 {
		h := signed(t, counted(), leaf, uint64(1+leaf%2), api.Hash{byte(leaf)})
		broken := h
		broken.Sig.One[d.Intn(64)][d.Intn(2)][d.Intn(32)] ^= 1
		l = append(l, h, broken)
	}
	for _, a := range l {
		for _, b := range l {
			both := head.Verify(public, a) == api.OK && head.Verify(public, b) == api.OK
			want, wantDoubt := api.ErrForm, api.ErrForm
			switch {
			case fits(a, b) && both:
				want = api.OK
			case fits(a, b):
				want = api.ErrSig
			case doubtful(a, b) && both:
				wantDoubt = api.OK
			case doubtful(a, b):
				wantDoubt = api.ErrSig
			}
			expectVerify(t, "signed or not", public, a, b, want)
			expectCheck(t, "signed or not", public, a, b, wantDoubt)
		}
	}
}
