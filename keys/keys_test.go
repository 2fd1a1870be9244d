package keys_test

import (
	"bytes"
	"crypto/sha256"
	"encoding/hex"
	"math"
	"math/rand"
	"slices"
	"testing"

	"assayer/api"
	"assayer/keys"
	"assayer/lamport"
)

// told is the hash that digits of 16 tell.
func told(t *testing.T, digits string) api.Hash {
	t.Helper()
	b, err := hex.DecodeString(digits)
	if err != nil || len(b) != len(api.Hash{}) {
		t.Fatalf("%q is no hash", digits)
	}
	return api.Hash(b)
}

// plain is the library's hash of rows, one behind the other.
func plain(l ...[]byte) api.Hash { return sha256.Sum256(slices.Concat(l...)) }

func leaf(b []byte) api.Hash { return plain([]byte{0}, b) }

func node(a, b api.Hash) api.Hash { return plain([]byte{1}, a[:], b[:]) }

// plainTree is the hashes of a seed's tree, row by row, the eight of its leaves
// first, built from below.
func plainTree(seed api.Hash) [][]api.Hash {
	var row []api.Hash
	for i := range 8 {
		public := lamport.Public(seed, i)
		row = append(row, leaf(public[:]))
	}
	out := [][]api.Hash{row}
	for len(row) > 1 {
		var up []api.Hash
		for two := range slices.Chunk(row, 2) {
			up = append(up, node(two[0], two[1]))
		}
		out, row = append(out, up), up
	}
	return out
}

func plainPublic(seed api.Hash) api.Hash { return plainTree(seed)[3][0] }

// plainSign is the signature of bytes with a leaf.
func plainSign(seed api.Hash, index int, b []byte) keys.Sig {
	rows := plainTree(seed)
	return keys.Sig{
		Index: uint8(index),
		One:   lamport.Sign(seed, index, b),
		Path:  [3]api.Hash{rows[0][index^1], rows[1][index/2^1], rows[2][index/4^1]},
	}
}

// climb is the root that a signature of bytes makes, whatever it is.
func climb(b []byte, s keys.Sig) api.Hash {
	public := lamport.From(b, s.One)
	root := leaf(public[:])
	for k, h := range s.Path {
		if s.Index>>k&1 == 0 {
			root = node(root, h)
		} else {
			root = node(h, root)
		}
	}
	return root
}

// whole is the hash of all hashes of a one-time signature, one behind the other.
func whole(s lamport.Sig) api.Hash {
	var all []byte
	for _, pair := range s {
		all = append(append(all, pair[0][:]...), pair[1][:]...)
	}
	return plain(all)
}

// counted is the hash whose bytes are 0 to 31.
func counted() api.Hash {
	var h api.Hash
	for i := range h {
		h[i] = byte(i)
	}
	return h
}

func randomHash(d *rand.Rand) api.Hash {
	var h api.Hash
	d.Read(h[:])
	return h
}

func randomSig(d *rand.Rand, index uint8) keys.Sig {
	s := keys.Sig{Index: index}
	for k := range s.One {
		s.One[k] = lamport.Pair{randomHash(d), randomHash(d)}
	}
	for k := range s.Path {
		s.Path[k] = randomHash(d)
	}
	return s
}

// otherBit is a hash with one bit changed.
func otherBit(h api.Hash, bit int) api.Hash {
	h[bit/8] ^= 128 >> (bit % 8)
	return h
}

// signer is one of a seed, whose next leaf is next, which may be.
func signer(t *testing.T, seed api.Hash, next int) *keys.Signer {
	t.Helper()
	s, err := keys.NewSigner(seed, next)
	if err != api.OK || s == nil {
		t.Fatalf("next %d: %v, error %d", next, s, err)
	}
	return s
}

// signed is what a signer signs, which isn't spent.
func signed(t *testing.T, s *keys.Signer, b []byte) keys.Sig {
	t.Helper()
	made, err := s.Sign(b)
	if err != api.OK {
		t.Fatalf("%d bytes: error %d", len(b), err)
	}
	return made
}

// expectSpent signs in vain.
func expectSpent(t *testing.T, s *keys.Signer) {
	t.Helper()
	for _, b := range [][]byte{[]byte("abc"), nil} {
		if made, err := s.Sign(b); err != api.ErrSpent || made != (keys.Sig{}) {
			t.Errorf("a spent signer: index %d, error %d", made.Index, err)
		}
	}
	if s.Next() != 8 {
		t.Errorf("a spent signer's next is %d", s.Next())
	}
}

// expect verifies a signature of bytes.
func expect(t *testing.T, name string, public api.Hash, b []byte, s keys.Sig, want api.Errno) {
	t.Helper()
	if got := keys.Verify(public, b, s); got != want {
		t.Errorf("%s, index %d: error %d, want %d", name, s.Index, got, want)
	}
}

// P8.1

func TestManyIsHowManyLeavesThereAre(t *testing.T) {
	if keys.Many != 8 {
		t.Errorf("%d", keys.Many)
	}
}

func TestPublicOfKnownSeeds(t *testing.T) {
	for _, c := range []struct {
		seed api.Hash
		want string
	}{
		{api.Hash{}, "a8a817da508a0006076ef1fcc68c0f7dc541b56388fcca61ba3198f5670dc0e1"},
		{counted(), "250583d58135e7e73328570159063330ae811a658df42aa3ac8a345e4bd4a751"},
	} {
		if got, want := keys.Public(c.seed), told(t, c.want); got != want {
			t.Errorf("seed %x: %x, want %x", c.seed, got, want)
		}
	}
}

func TestPublicOfAnySeed(t *testing.T) {
	d := rand.New(rand.NewSource(1))
	for range 40 {
		seed := randomHash(d)
		if got, want := keys.Public(seed), plainPublic(seed); got != want || keys.Public(seed) != want {
			t.Errorf("seed %x: %x, want %x", seed, got, want)
		}
	}
}

func TestEachBitOfTheSeedCounts(t *testing.T) {
	seed := counted()
	seen := map[api.Hash]int{keys.Public(seed): -1}
	for bit := range 256 {
		public := keys.Public(otherBit(seed, bit))
		if other, is := seen[public]; is {
			t.Errorf("bits %d and %d changed come to one root", other, bit)
		}
		seen[public] = bit
	}
}

func TestNewSignerOfEachLeaf(t *testing.T) {
	for next := range 9 {
		s := signer(t, counted(), next)
		if s.Next() != next || s.Next() != next {
			t.Errorf("next %d: %d", next, s.Next())
		}
	}
}

func TestNewSignerOfNoLeaf(t *testing.T) {
	for _, next := range []int{-1, -2, -8, -256, math.MinInt32, math.MinInt, 9, 10, 16, 256, 264, 1 << 32, 1<<32 + 3, math.MaxInt} {
		if s, err := keys.NewSigner(counted(), next); s != nil || err != api.ErrArg {
			t.Errorf("next %d: %v, error %d", next, s, err)
		}
	}
}

func TestSignOfKnownSeeds(t *testing.T) {
	for _, c := range []struct {
		seed api.Hash
		next int
		b    string
		one  string
		path [3]string
	}{
		{api.Hash{}, 0, "", "c80078e882400bacf77b90ac9260c5cc3ea88b84a33cc7cbb25e4f5d7162e7a6", [3]string{"365b395d60c4a00f95faa7613d4548f97118b35f0385e21e519954a0ca1fabce", "c7d7476951253bccfae92a191fe588c1fa8ae891e7595d4d58838d0a4183e947", "1fd4be477c6dfa25a6a880f770f47ec25e340fc409d4bd96266a42923beb30bb"}},
		{api.Hash{}, 3, "abc", "85b200932bba95767dc119d8cc0d8b169ff27544cfdbcf227a1bf12355901cb7", [3]string{"99854da60d0ebd8f6827fffd81716cfa061d3e87fc801c44cc01862c6642b908", "0d32e8d085389bfd6728e9a97988e4c5ed0f9c1408d3a934cf055e1bf5746fef", "1fd4be477c6dfa25a6a880f770f47ec25e340fc409d4bd96266a42923beb30bb"}},
		{counted(), 0, "abc", "d847dd22c82b707ae705021cd61d22a6058c530462fee834cee24bdcedd9f555", [3]string{"58cd6409751baf951f70a93c984832ba8c0d3fa1cdc617de7914a7932ed4bf6e", "f1b020e66242f03b7c74df7ad348c26aba1ef4a95d7770c766b281feb65d6097", "965edae9f302c2cedc7596e315ee38a3095e588b72e56615491a0f562c0d79d9"}},
		{counted(), 3, "", "defdde54e4c8be6549082902022b20548a44b5ce6c5353dd203a42151ec4e43d", [3]string{"1409a36cbf3b72e048dc53594eb929741301ff7d975452ff1133ab4c7c2709fb", "9c99f82c9df565f8018577a71b445bb53a3d1798b3de186935501af48ed3908e", "965edae9f302c2cedc7596e315ee38a3095e588b72e56615491a0f562c0d79d9"}},
		{counted(), 7, "abc", "e277157e3a90fa6378af696eacddc15391142e0f637040981844c4099442ce35", [3]string{"b3d39322cd0d4395cffc46ed5505e94d186636623bcca2955f05b96e5bb57584", "4910cfee908d8ce59d27834d47cfd0d55889c2d47b4ca529d2cfe1b028c0e97f", "b00fc41167abc407c3735f8ba9f3ca53738e5022e103a626558b78a95352c235"}},
	} {
		made := signed(t, signer(t, c.seed, c.next), []byte(c.b))
		if int(made.Index) != c.next || whole(made.One) != told(t, c.one) {
			t.Errorf("leaf %d, %q: index %d, %x", c.next, c.b, made.Index, whole(made.One))
		}
		for k, digits := range c.path {
			if made.Path[k] != told(t, digits) {
				t.Errorf("leaf %d, %q: hash %d of the path is %x", c.next, c.b, k, made.Path[k])
			}
		}
	}
}

func TestSignWithEachLeaf(t *testing.T) {
	d := rand.New(rand.NewSource(2))
	for first := range 9 {
		seed := randomHash(d)
		s := signer(t, seed, first)
		for next := first; next < 8; next++ {
			b := make([]byte, d.Intn(200))
			d.Read(b)
			if made := signed(t, s, b); made != plainSign(seed, next, b) {
				t.Errorf("leaf %d, %d bytes: another signature, of index %d", next, len(b), made.Index)
			}
			if s.Next() != next+1 {
				t.Errorf("behind leaf %d the next one is %d", next, s.Next())
			}
		}
		expectSpent(t, s)
	}
}

// The document's example.
func TestTheNinthSignatureIsRefused(t *testing.T) {
	s := signer(t, counted(), 0)
	for range 8 {
		signed(t, s, []byte("abc"))
	}
	expectSpent(t, s)
	expectSpent(t, s)
	expectSpent(t, signer(t, counted(), 8))
}

func TestNilSigner(t *testing.T) {
	var s *keys.Signer
	for _, b := range [][]byte{nil, {}, []byte("abc")} {
		if made, err := s.Sign(b); err != api.ErrArg || made != (keys.Sig{}) || s.Next() != 0 {
			t.Errorf("%d bytes: index %d, error %d, next %d", len(b), made.Index, err, s.Next())
		}
	}
}

func TestNilBytesAreNoBytes(t *testing.T) {
	s, other := signer(t, counted(), 2), signer(t, counted(), 2)
	made := signed(t, s, nil)
	if made != signed(t, other, []byte{}) || s.Next() != 3 || other.Next() != 3 {
		t.Error("two signatures of nothing")
	}
	public := keys.Public(counted())
	expect(t, "nil", public, nil, made, api.OK)
	expect(t, "empty", public, []byte{}, made, api.OK)
}

// Rule 4: signers know nothing of one another, nor of Public and Verify.
func TestSignersGoOnByThemselves(t *testing.T) {
	b := []byte("abc")
	first, second, third := signer(t, counted(), 0), signer(t, counted(), 0), signer(t, api.Hash{}, 5)
	for next := range 3 {
		made := signed(t, first, b)
		keys.Verify(keys.Public(counted()), b, made)
		if made != plainSign(counted(), next, b) {
			t.Errorf("leaf %d of the first: another signature", next)
		}
		if signed(t, third, b) != plainSign(api.Hash{}, 5+next, b) {
			t.Errorf("leaf %d of the third: another signature", 5+next)
		}
	}
	if first.Next() != 3 || second.Next() != 0 || third.Next() != 8 {
		t.Errorf("next: %d, %d, %d", first.Next(), second.Next(), third.Next())
	}
	if signed(t, second, b) != plainSign(counted(), 0, b) {
		t.Error("the second one's signature is another one")
	}
}

// A signer that is opened anew where another one stopped goes on as that one.
func TestASignerGoesOnFromNext(t *testing.T) {
	b := []byte("abc")
	s := signer(t, counted(), 0)
	for range 3 {
		signed(t, s, b)
	}
	again := signer(t, counted(), s.Next())
	for range 5 {
		if signed(t, s, b) != signed(t, again, b) {
			t.Errorf("leaf %d: two signatures", s.Next()-1)
		}
	}
	expectSpent(t, again)
}

// Rule 3: what is handed in is not changed and not kept.
func TestBytesAreLeftAsTheyAre(t *testing.T) {
	d := rand.New(rand.NewSource(3))
	room := make([]byte, 200)
	d.Read(room)
	before := bytes.Clone(room)
	s, b := signer(t, counted(), 1), room[:100]
	made := signed(t, s, b)
	kept := made
	expect(t, "what was signed", keys.Public(counted()), b, made, api.OK)
	if !bytes.Equal(room, before) || made != kept {
		t.Error("what was handed in was changed")
	}
	clear(b)
	if made != kept || signed(t, s, before[:100]) != plainSign(counted(), 2, before[:100]) {
		t.Error("a signature hangs on bytes that were changed behind it")
	}
}

// P8.2

// Whatever makes the public root is a signature, of any seed or of none.
func TestVerifyOfAnySignature(t *testing.T) {
	d := rand.New(rand.NewSource(4))
	for index := range uint8(8) {
		for range 10 {
			s := randomSig(d, index)
			b := make([]byte, d.Intn(100))
			d.Read(b)
			public := climb(b, s)
			expect(t, "its own root", public, b, s, api.OK)
			expect(t, "another root", otherBit(public, d.Intn(256)), b, s, api.ErrSig)
		}
	}
}

func TestVerifyOfKnownSignatures(t *testing.T) {
	public := told(t, "250583d58135e7e73328570159063330ae811a658df42aa3ac8a345e4bd4a751")
	for index := range 8 {
		s := plainSign(counted(), index, []byte("abc"))
		expect(t, "abc", public, []byte("abc"), s, api.OK)
		expect(t, "abc, of another seed", public, []byte("abc"), plainSign(api.Hash{}, index, []byte("abc")), api.ErrSig)
	}
}

// An index that there isn't, though its lowest bits are a place's, is refused.
func TestVerifyOfEachIndex(t *testing.T) {
	b, public := []byte("abc"), keys.Public(counted())
	for own := range 8 {
		s := plainSign(counted(), own, b)
		for index := range 256 {
			s.Index = uint8(index)
			want := api.ErrSig
			if index == own {
				want = api.OK
			}
			expect(t, "an index", public, b, s, want)
		}
	}
	d := rand.New(rand.NewSource(5))
	for index := 8; index < 256; index++ {
		s := randomSig(d, uint8(index))
		expect(t, "a root of its own", climb(b, s), b, s, api.ErrSig)
	}
}

func TestVerifyHangsOnEachBitOfRootAndPath(t *testing.T) {
	b, public := []byte("abc"), keys.Public(counted())
	s := plainSign(counted(), 5, b)
	for bit := range 256 {
		expect(t, "a root with another bit", otherBit(public, bit), b, s, api.ErrSig)
		for k := range s.Path {
			other := s
			other.Path[k] = otherBit(s.Path[k], bit)
			expect(t, "a path with another bit", public, b, other, api.ErrSig)
		}
	}
}

func TestVerifyHangsOnEachHalf(t *testing.T) {
	d := rand.New(rand.NewSource(6))
	b, public := []byte("abc"), keys.Public(counted())
	s := plainSign(counted(), 2, b)
	for k := range s.One {
		for v := range s.One[k] {
			other := s
			other.One[k][v] = otherBit(s.One[k][v], d.Intn(256))
			expect(t, "a half with another bit", public, b, other, api.ErrSig)
		}
		other := s
		other.One[k] = lamport.Pair{s.One[k][1], s.One[k][0]}
		expect(t, "a pair turned", public, b, other, api.ErrSig)
	}
}

func TestVerifyOfHashesInWrongPlaces(t *testing.T) {
	b, public := []byte("abc"), keys.Public(counted())
	s := plainSign(counted(), 6, b)
	for _, order := range [][3]int{{0, 2, 1}, {1, 0, 2}, {1, 2, 0}, {2, 0, 1}, {2, 1, 0}, {0, 0, 0}} {
		other := s
		for k, from := range order {
			other.Path[k] = s.Path[from]
		}
		expect(t, "a path in another order", public, b, other, api.ErrSig)
	}
	other := s
	other.Path = [3]api.Hash{}
	expect(t, "no path", public, b, other, api.ErrSig)
	other.Path = plainSign(counted(), 7, b).Path
	expect(t, "a neighbour's path", public, b, other, api.ErrSig)
}

func TestVerifyOfOtherBytes(t *testing.T) {
	b, public := []byte("abc"), keys.Public(counted())
	s := plainSign(counted(), 0, b)
	for _, other := range [][]byte{nil, {}, []byte("ab"), []byte("abd"), []byte("abc\x00"), []byte("ABC"), bytes.Repeat([]byte("abc"), 30000)} {
		expect(t, "other bytes", public, other, s, api.ErrSig)
	}
}

func TestVerifyOfNoSignature(t *testing.T) {
	for _, public := range []api.Hash{{}, counted(), keys.Public(counted()), plain()} {
		expect(t, "nothing", public, nil, keys.Sig{}, api.ErrSig)
		expect(t, "nothing", public, []byte("abc"), keys.Sig{}, api.ErrSig)
	}
}

// A leaf's key counts as an entry: taken as a hash of the tree it proves nothing.
func TestVerifyTakesTheKeyAsAnEntry(t *testing.T) {
	b := []byte("abc")
	s := plainSign(counted(), 0, b)
	bare := lamport.From(b, s.One)
	for _, h := range s.Path {
		bare = node(bare, h)
	}
	expect(t, "a root above the bare key", bare, b, s, api.ErrSig)
	expect(t, "the key itself", lamport.From(b, s.One), b, s, api.ErrSig)
	expect(t, "a root above the entry", keys.Public(counted()), b, s, api.OK)
}

// P8.3

func TestWhatIsSignedIsVerified(t *testing.T) {
	d := rand.New(rand.NewSource(7))
	rows := [][]byte{nil, {}, {0}, {255}, []byte("abc"), []byte("head"), bytes.Repeat([]byte{7}, 100000)}
	for n := range 60 {
		b := make([]byte, n)
		d.Read(b)
		rows = append(rows, b)
	}
	for i, b := range rows {
		seed := randomHash(d)
		s := signer(t, seed, i%8)
		expect(t, "what was signed", keys.Public(seed), b, signed(t, s, b), api.OK)
	}
}

func TestEightAreSignedEachWithALeafOfItsOwn(t *testing.T) {
	public, s := keys.Public(counted()), signer(t, counted(), 0)
	leaves := map[api.Hash]uint8{}
	for i := range 8 {
		b := []byte{'n', byte(i)}
		made := signed(t, s, b)
		expect(t, "one of eight", public, b, made, api.OK)
		key := lamport.From(b, made.One)
		if other, is := leaves[key]; is || made.Index != uint8(i) || key != lamport.Public(counted(), i) {
			t.Errorf("signature %d is of index %d, by a leaf that was %d's", i, made.Index, other)
		}
		leaves[key] = made.Index
		for _, other := range [][]byte{{'n', byte(i + 1)}, {'n'}} {
			expect(t, "of other bytes", public, other, made, api.ErrSig)
		}
	}
	if len(leaves) != 8 {
		t.Errorf("%d leaves", len(leaves))
	}
}
