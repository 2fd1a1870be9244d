package lamport_test

import (
	"bytes"
	"crypto/sha256"
	"encoding/binary"
	"encoding/hex"
	"fmt"
	"math"
	"math/rand"
	"slices"
	"testing"

	"assayer/api"
	"assayer/lamport"
)

// told is the hash that digits of 16 tell.
func told(t *testing.T, digits string) api.Hash {
	t.Helper()
	b, err := hex.DecodeString(digits)
	if err != nil || len(b) != len(api.Hash{}) {
		t.Fatalf("%q is no hash", digits)
	}
	return api.Hash(b)
}

// plain is the library's hash of rows, one behind the other.
func plain(l ...[]byte) api.Hash { return sha256.Sum256(slices.Concat(l...)) }

// plainSecret is the secret of bit k, of value v.
func plainSecret(seed api.Hash, index, k, v int) api.Hash {
	rest := ((int64(index) % (1 << 32)) + 1<<32) % (1 << 32)
	b := binary.BigEndian.AppendUint32(seed[:], uint32(rest))
	return plain(b, []byte{byte(k), byte(v)})
}

func plainOpen(h api.Hash) api.Hash { return plain(h[:]) }

// plainBit is bit k of bytes, told out of one number of 64 bits.
func plainBit(b []byte, k int) int {
	h := plain(b)
	return int(binary.BigEndian.Uint64(h[:8]) >> (63 - k) % 2)
}

func plainPublic(seed api.Hash, index int) api.Hash {
	var all []byte
	for i := range 128 {
		open := plainOpen(plainSecret(seed, index, i/2, i%2))
		all = append(all, open[:]...)
	}
	return plain(all)
}

func plainSign(seed api.Hash, index int, b []byte) lamport.Sig {
	var s lamport.Sig
	for i := range 128 {
		k, v := i/2, i%2
		s[k][v] = plainSecret(seed, index, k, v)
		if v != plainBit(b, k) {
			s[k][v] = plainOpen(s[k][v])
		}
	}
	return s
}

func plainFrom(b []byte, s lamport.Sig) api.Hash {
	var all []byte
	for i := range 128 {
		k, v := i/2, i%2
		h := s[k][v]
		if v == plainBit(b, k) {
			h = plainOpen(h)
		}
		all = append(all, h[:]...)
	}
	return plain(all)
}

// wholeOf is the hash of all hashes of a signature, one behind the other.
func wholeOf(s lamport.Sig) api.Hash {
	var all []byte
	for _, pair := range s {
		all = append(append(all, pair[0][:]...), pair[1][:]...)
	}
	return plain(all)
}

// counted is the hash whose bytes are 0 to 31.
func counted() api.Hash {
	var h api.Hash
	for i := range h {
		h[i] = byte(i)
	}
	return h
}

func randomHash(d *rand.Rand) api.Hash {
	var h api.Hash
	d.Read(h[:])
	return h
}

func randomSig(d *rand.Rand) lamport.Sig {
	var s lamport.Sig
	for k := range s {
		s[k] = lamport.Pair{randomHash(d), randomHash(d)}
	}
	return s
}

// otherBit is a hash with one bit changed.
func otherBit(h api.Hash, bit int) api.Hash {
	h[bit/8] ^= 128 >> (bit % 8)
	return h
}

// indices are ordinary ones, and those about the ends of what four bytes tell.
func indices() []int {
	return []int{
		0, 1, 2, 7, 8, 255, 256, 65535, 65536, 1 << 24, math.MaxInt32, 1 << 31, math.MaxUint32, 1 << 32, 1<<32 + 7, 1 << 40, math.MaxInt - 5, math.MaxInt,
		-1, -2, -256, math.MinInt32, math.MinInt32 - 1, -math.MaxUint32, -1 << 32, -1<<32 - 7, math.MinInt + 3, math.MinInt,
	}
}

// rows are bytes of many lengths.
func rows(d *rand.Rand) [][]byte {
	out := [][]byte{nil, {}, {0}, {255}, []byte("abc"), []byte("head"), bytes.Repeat([]byte{7}, 100000)}
	for n := range 140 {
		b := make([]byte, n)
		d.Read(b)
		out = append(out, b)
	}
	return out
}

// P7.1

func TestPublicOfKnownSeeds(t *testing.T) {
	for _, c := range []struct {
		seed  api.Hash
		index int
		want  string
	}{
		{api.Hash{}, 0, "e6cf6d25bb548d4bdb1c7cd51edfa9ee2d5b9d2de7ee8d4f343226f3b03942d3"},
		{api.Hash{}, 1, "c4763bce36440b98fd72171eec70e947c47653d490127d2ddd604f66c2a5de74"},
		{api.Hash{}, 7, "43714cbdebfc9e4fd04b1c395ba12909cd21b6e33543044372332d35b1efe135"},
		{api.Hash{}, 3, "2bb9dfaaaf867c6f9cab0cf42074dda218fc2d18698c3c3474d97c8eccc50f4f"},
		{api.Hash{}, 256, "b271e1810abb58c41dcd8560410dce323e55a6ad74f0323eaf43c4ffb69b918f"},
		{api.Hash{}, -1, "4b5f2fd524f7f309dc0cf56fbb2f31fdf823947c70e275e809630b27eaf2a58b"},
		{counted(), 0, "d97bb14aef228274b9c1b30a3be11c3c2aac8eed9ad722597acdca1d95899226"},
		{counted(), 1, "bff6017a9ab390d7b1073e82ab5b429bd8bc14d60e4134ba0a6f587fd9b2cf47"},
		{counted(), 7, "ff8843667f8b5a4df4e587fe5e769c3f8ffc1518d2b62bcda5ed16236bbf02dc"},
		{counted(), 3, "96e3a8e372be4e4d2ee6a12fb9aace1a1313629141e0dd39a94c4cb04621709a"},
		{counted(), 256, "9ad0248062641885f6468a2dc05f48ad09ee529c6d3d5e164f79a7e3724da070"},
		{counted(), -1, "75616abe675898ad21125c89ca39b98b2e701f04289254659743e90615c1aad5"},
		{counted(), 1 << 31, "c444baf80a6352a6fbbd9a4affaf29ece01a7c034e6843d911d76f6a7a65c637"},
		{counted(), 1<<32 - 1, "75616abe675898ad21125c89ca39b98b2e701f04289254659743e90615c1aad5"},
		{counted(), 1<<32 + 3, "96e3a8e372be4e4d2ee6a12fb9aace1a1313629141e0dd39a94c4cb04621709a"},
	} {
		if got, want := lamport.Public(c.seed, c.index), told(t, c.want); got != want {
			t.Errorf("seed %x, index %d: %x, want %x", c.seed, c.index, got, want)
		}
	}
}

func TestPublicOfAnySeed(t *testing.T) {
	d := rand.New(rand.NewSource(1))
	for _, index := range append(indices(), d.Int(), -d.Int()) {
		for _, seed := range []api.Hash{{}, counted(), randomHash(d), randomHash(d)} {
			if got, want := lamport.Public(seed, index), plainPublic(seed, index); got != want {
				t.Errorf("seed %x, index %d: %x, want %x", seed, index, got, want)
			}
		}
	}
}

// Only the index's rest by 2^32 counts, and each of its bits does.
func TestTheIndexCountsByItsRest(t *testing.T) {
	d := rand.New(rand.NewSource(2))
	seed, b := randomHash(d), []byte("abc")
	for _, index := range indices() {
		rest := int(uint32(index))
		if lamport.Public(seed, index) != lamport.Public(seed, rest) || lamport.Sign(seed, index, b) != lamport.Sign(seed, rest, b) {
			t.Errorf("index %d isn't as %d", index, rest)
		}
	}
	for bit := range 64 {
		other := 9 ^ 1<<bit
		same := lamport.Public(seed, 9) == lamport.Public(seed, other)
		alike := lamport.Sign(seed, 9, b) == lamport.Sign(seed, other, b)
		if same != (bit >= 32) || alike != (bit >= 32) {
			t.Errorf("index 9 and %d: %v, %v", other, same, alike)
		}
	}
}

func TestEachBitOfTheSeedCounts(t *testing.T) {
	seed := counted()
	public, s := lamport.Public(seed, 4), lamport.Sign(seed, 4, nil)
	for bit := range 256 {
		other := otherBit(seed, bit)
		if lamport.Public(other, 4) == public {
			t.Errorf("the public key doesn't hang on bit %d", bit)
		}
		for k, pair := range lamport.Sign(other, 4, nil) {
			if pair[0] == s[k][0] || pair[1] == s[k][1] {
				t.Errorf("pair %d doesn't hang on bit %d", k, bit)
			}
		}
	}
}

func TestSignOfKnownSeeds(t *testing.T) {
	for _, c := range []struct {
		seed         api.Hash
		b            string
		first, whole string
	}{
		{api.Hash{}, "", "5c1d513b814931cfe2b9395e73f091a3568b3153eac9d963a0b0611b9c53f59d", "0624867d3b6de40487e6e33b833080d450a0f69bc6df980ada5e50f4fa578a02"},
		{api.Hash{}, "abc", "5c1d513b814931cfe2b9395e73f091a3568b3153eac9d963a0b0611b9c53f59d", "85b200932bba95767dc119d8cc0d8b169ff27544cfdbcf227a1bf12355901cb7"},
		{counted(), "", "8243a82a4306ce4309991067a78991659ba379e19218050def2e154da3e963df", "defdde54e4c8be6549082902022b20548a44b5ce6c5353dd203a42151ec4e43d"},
		{counted(), "abc", "8243a82a4306ce4309991067a78991659ba379e19218050def2e154da3e963df", "0b8e1d2ff5e46bc942e353594f2786a793429fef04504ccb7959955f14237ac5"},
	} {
		s := lamport.Sign(c.seed, 3, []byte(c.b))
		if s[0][0] != told(t, c.first) || wholeOf(s) != told(t, c.whole) {
			t.Errorf("seed %x, %q: %x first, %x whole", c.seed, c.b, s[0][0], wholeOf(s))
		}
	}
}

// The bits of abc are those of ba7816bf 8f01cfea: 1011 1010 and so on, from each
// byte's highest one on. Of each the secret is told, and the other one's open half.
func TestSignTellsTheSecretsOfTheBits(t *testing.T) {
	const digits = "ba7816bf8f01cfea"
	seed := counted()
	s := lamport.Sign(seed, 5, []byte("abc"))
	text := ""
	for _, digit := range digits {
		var x int
		fmt.Sscanf(string(digit), "%x", &x)
		text += fmt.Sprintf("%04b", x)
	}
	if len(text) != len(s) {
		t.Fatalf("%d bits", len(text))
	}
	for k, bit := range text {
		v := int(bit - '0')
		if s[k][v] != plainSecret(seed, 5, k, v) {
			t.Errorf("bit %d is %d: no secret in its place", k, v)
		}
		if s[k][1-v] != plainOpen(plainSecret(seed, 5, k, 1-v)) {
			t.Errorf("bit %d is %d: no open half in the other place", k, v)
		}
	}
}

func TestSignOfAnyBytes(t *testing.T) {
	d := rand.New(rand.NewSource(3))
	many := [api.Bits][2]int{}
	for i, b := range rows(d) {
		seed, index := randomHash(d), indices()[i%len(indices())]
		if lamport.Sign(seed, index, b) != plainSign(seed, index, b) {
			t.Errorf("seed %x, index %d, %d bytes: another signature", seed, index, len(b))
		}
		for k := range many {
			many[k][plainBit(b, k)]++
		}
	}
	for k, n := range many {
		if n[0] == 0 || n[1] == 0 {
			t.Errorf("bit %d has one value alone", k)
		}
	}
}

func TestSignOfEachIndex(t *testing.T) {
	seed, b := counted(), []byte("an entry")
	for _, index := range indices() {
		if lamport.Sign(seed, index, b) != plainSign(seed, index, b) {
			t.Errorf("index %d: another signature", index)
		}
	}
}

func TestNilBytesAreNoBytes(t *testing.T) {
	seed := counted()
	s := lamport.Sign(seed, 1, nil)
	if s != lamport.Sign(seed, 1, []byte{}) || s != plainSign(seed, 1, nil) {
		t.Error("two signatures of nothing")
	}
	if lamport.From(nil, s) != lamport.From([]byte{}, s) {
		t.Error("nothing comes to two keys")
	}
}

// P7.2

func TestFromOfKnownSignatures(t *testing.T) {
	for _, c := range []struct {
		seed  api.Hash
		index int
		b     string
		want  string
	}{
		{api.Hash{}, 0, "", "e6cf6d25bb548d4bdb1c7cd51edfa9ee2d5b9d2de7ee8d4f343226f3b03942d3"},
		{api.Hash{}, 3, "abc", "2bb9dfaaaf867c6f9cab0cf42074dda218fc2d18698c3c3474d97c8eccc50f4f"},
		{counted(), 7, "abc", "ff8843667f8b5a4df4e587fe5e769c3f8ffc1518d2b62bcda5ed16236bbf02dc"},
		{counted(), -1, "", "75616abe675898ad21125c89ca39b98b2e701f04289254659743e90615c1aad5"},
	} {
		s := plainSign(c.seed, c.index, []byte(c.b))
		if got, want := lamport.From([]byte(c.b), s), told(t, c.want); got != want {
			t.Errorf("seed %x, index %d, %q: %x, want %x", c.seed, c.index, c.b, got, want)
		}
	}
}

func TestFromOfAnySignature(t *testing.T) {
	d := rand.New(rand.NewSource(4))
	for _, b := range rows(d) {
		for _, s := range []lamport.Sig{{}, randomSig(d)} {
			if got, want := lamport.From(b, s), plainFrom(b, s); got != want {
				t.Errorf("%d bytes: %x, want %x", len(b), got, want)
			}
		}
	}
}

// What is in the place of a bit's value is hashed, what is in the other one is
// taken as it is.
func TestFromHashesThePlaceOfTheValue(t *testing.T) {
	d := rand.New(rand.NewSource(5))
	for _, b := range [][]byte{nil, []byte("abc"), []byte("b")} {
		s := randomSig(d)
		var all []byte
		for k, pair := range s {
			pair[plainBit(b, k)] = plainOpen(pair[plainBit(b, k)])
			all = append(append(all, pair[0][:]...), pair[1][:]...)
		}
		if got := lamport.From(b, s); got != plain(all) {
			t.Errorf("%q: %x, want %x", b, got, plain(all))
		}
	}
}

// Rule 3: what is handed in is not changed and not kept.
func TestBytesAreLeftAsTheyAre(t *testing.T) {
	d := rand.New(rand.NewSource(6))
	room := make([]byte, 200)
	d.Read(room)
	before := bytes.Clone(room)
	seed, b := counted(), room[:100]
	s := lamport.Sign(seed, 2, b)
	kept := s
	if lamport.From(b, s) != plainPublic(seed, 2) || s != kept {
		t.Error("another key, or a signature that was changed")
	}
	if !bytes.Equal(room, before) {
		t.Error("what was handed in was changed")
	}
	clear(b)
	if s != kept || lamport.Sign(seed, 2, before[:100]) != kept {
		t.Error("a signature hangs on bytes that were changed behind it")
	}
}

// P7.3

func TestWhatIsSignedComesToThePublicKey(t *testing.T) {
	d := rand.New(rand.NewSource(7))
	for i, b := range rows(d) {
		seed, index := randomHash(d), indices()[i%len(indices())]
		if got, want := lamport.From(b, lamport.Sign(seed, index, b)), lamport.Public(seed, index); got != want {
			t.Errorf("seed %x, index %d, %d bytes: %x, want %x", seed, index, len(b), got, want)
		}
	}
	seed, b := counted(), []byte("b")
	if lamport.From(b, lamport.Sign(seed, 3, b)) != lamport.Public(seed, 3) {
		t.Error("the document's example")
	}
}

// Another signature has another half, open or hashed, and so comes to another key.
func TestAnotherHalfComesToAnotherKey(t *testing.T) {
	d := rand.New(rand.NewSource(8))
	seed := randomHash(d)
	public := lamport.Public(seed, 6)
	for _, b := range [][]byte{nil, []byte("abc")} {
		s := lamport.Sign(seed, 6, b)
		for k := range s {
			for v := range s[k] {
				for i := range len(api.Hash{}) {
					other := s
					other[k][v] = otherBit(s[k][v], 8*i+d.Intn(8))
					if lamport.From(b, other) == public {
						t.Fatalf("%q: byte %d of place %d of pair %d doesn't count", b, i, v, k)
					}
				}
			}
		}
	}
}

// Halves of this key in wrong places come to another key.
func TestHalvesInWrongPlacesComeToAnotherKey(t *testing.T) {
	seed, b := counted(), []byte("abc")
	public, s := lamport.Public(seed, 0), lamport.Sign(seed, 0, b)
	for k := range s {
		v := plainBit(b, k)
		turned, closed, open, moved := s, s, s, s
		turned[k] = lamport.Pair{s[k][1], s[k][0]}
		closed[k][v] = plainOpen(s[k][v])
		open[k][1-v] = plainSecret(seed, 0, k, 1-v)
		next := (k + 1) % len(s)
		moved[k], moved[next] = s[next], s[k]
		for name, other := range map[string]lamport.Sig{
			"a pair turned": turned, "an open half for a secret": closed, "a secret for an open half": open, "two pairs changed about": moved,
		} {
			if lamport.From(b, other) == public {
				t.Errorf("%s, pair %d: it comes to the public key", name, k)
			}
		}
	}
}

// A signature is of one row of bytes, one seed and one index.
func TestASignatureIsOfNothingElse(t *testing.T) {
	d := rand.New(rand.NewSource(9))
	seed, b := randomHash(d), []byte("abc")
	public, s := lamport.Public(seed, 1), lamport.Sign(seed, 1, b)
	for _, other := range [][]byte{nil, []byte("ab"), []byte("abd"), []byte("abc\x00"), []byte("ABC")} {
		if lamport.From(other, s) == public {
			t.Errorf("it is of %q, too", other)
		}
	}
	for _, index := range []int{0, 2, 3, 257, -1} {
		if lamport.From(b, lamport.Sign(seed, index, b)) == public {
			t.Errorf("that of index %d comes to the key of 1", index)
		}
	}
	if lamport.From(b, lamport.Sign(otherBit(seed, 255), 1, b)) == public {
		t.Error("that of another seed comes to this key")
	}
	if lamport.From(b, lamport.Sig{}) == public {
		t.Error("no signature at all comes to the key")
	}
}
