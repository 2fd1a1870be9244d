package msg_test

import (
	"bytes"
	"encoding/binary"
	"encoding/hex"
	"math"
	"math/rand"
	"slices"
	"testing"

	"assayer/api"
	"assayer/digest"
	"assayer/fetch"
	"assayer/fraud"
	"assayer/head"
	"assayer/keys"
	"assayer/lamport"
	"assayer/msg"
)

// How many bytes messages of fixed kinds have.
const (
	giveSize  = 1 + 4233
	proveSize = 1 + 8466
	askSize   = 81
)

// root is the bytes from first on.
func root(first int) api.Hash {
	var h api.Hash
	for k := range h {
		h[k] = byte(first + k)
	}
	return h
}

func randomHash(r *rand.Rand) api.Hash {
	var h api.Hash
	r.Read(h[:])
	return h
}

func randomHashes(r *rand.Rand, many int) []api.Hash {
	var l []api.Hash
	for range many {
		l = append(l, randomHash(r))
	}
	return l
}

func randomKey(r *rand.Rand) api.Key { return api.Key{Size: r.Uint64(), Root: randomHash(r)} }

func randomKeys(r *rand.Rand, many int) []api.Key {
	var l []api.Key
	for range many {
		l = append(l, randomKey(r))
	}
	return l
}

// unsigned is a head of a key that nobody signed, and whose hashes are all drawn.
func unsigned(r *rand.Rand, k api.Key) head.Head {
	h := head.Head{Key: k, Sig: keys.Sig{Index: uint8(r.Intn(8))}}
	for k := range h.Sig.One {
		h.Sig.One[k] = lamport.Pair{randomHash(r), randomHash(r)}
	}
	for k := range h.Sig.Path {
		h.Sig.Path[k] = randomHash(r)
	}
	return h
}

// proof is a proof of fraud that nobody signed.
func proof(r *rand.Rand) fraud.Proof {
	size := r.Uint64()
	p, _ := fraud.Make(unsigned(r, api.Key{Size: size, Root: api.Hash{1, byte(r.Intn(256))}}), unsigned(r, api.Key{Size: size, Root: api.Hash{0, byte(r.Intn(256))}}))
	return p
}

// full is a message of a kind that has something of every kind.
func full(r *rand.Rand, kind int) msg.Msg {
	return msg.Msg{
		Kind:   kind,
		Digest: digest.Digest{Keys: randomKeys(r, 1+r.Intn(32)), Frauds: randomHashes(r, 1+r.Intn(32))},
		Keys:   randomKeys(r, 1+r.Intn(32)),
		Head:   unsigned(r, randomKey(r)),
		Proof:  proof(r),
		Want:   fetch.Want{Old: randomKey(r), Now: randomKey(r)},
		Path:   randomHashes(r, 1+r.Intn(64)),
	}
}

// ofKind is a message without what isn't of its kind.
func ofKind(m msg.Msg) msg.Msg {
	switch m.Kind {
	case 1:
		return msg.Msg{Kind: 1, Digest: m.Digest}
	case 2:
		return msg.Msg{Kind: 2, Keys: m.Keys}
	case 3:
		return msg.Msg{Kind: 3, Head: m.Head}
	case 4:
		return msg.Msg{Kind: 4, Proof: m.Proof}
	case 5:
		return msg.Msg{Kind: 5, Want: m.Want}
	}
	return msg.Msg{Kind: 6, Want: m.Want, Path: m.Path}
}

func plainKeys(b []byte, l ...api.Key) []byte {
	for _, k := range l {
		b = append(binary.BigEndian.AppendUint64(b, k.Size), k.Root[:]...)
	}
	return b
}

// plainPut is a message's bytes by the document's words; too many are put, too.
func plainPut(m msg.Msg) []byte {
	b := []byte{byte(m.Kind)}
	switch m.Kind {
	case 1:
		d, _ := digest.Put(m.Digest)
		b = append(b, d...)
	case 2:
		b = plainKeys(append(b, byte(len(m.Keys))), m.Keys...)
	case 3:
		b = append(b, head.Put(m.Head)...)
	case 4:
		b = append(b, fraud.Put(m.Proof)...)
	case 5:
		b = plainKeys(b, m.Want.Old, m.Want.Now)
	case 6:
		b = append(plainKeys(b, m.Want.Old, m.Want.Now), byte(len(m.Path)))
		for _, h := range m.Path {
			b = append(b, h[:]...)
		}
	}
	return b
}

func same(a, b msg.Msg) bool {
	return a.Kind == b.Kind &&
		slices.Equal(a.Digest.Keys, b.Digest.Keys) && slices.Equal(a.Digest.Frauds, b.Digest.Frauds) &&
		slices.Equal(a.Keys, b.Keys) && a.Head == b.Head && a.Proof == b.Proof &&
		a.Want == b.Want && slices.Equal(a.Path, b.Path)
}

// expectPut puts a message.
func expectPut(t *testing.T, name string, m msg.Msg, want []byte) {
	t.Helper()
	if b, err := msg.Put(m); err != api.OK || !bytes.Equal(b, want) {
		t.Errorf("%s, kind %d: Put is %d bytes, %x, error %d, not %d bytes, %x", name, m.Kind, len(b), b[:min(len(b), 200)], err, len(want), want[:min(len(want), 200)])
	}
}

// expectUnput puts a message in vain.
func expectUnput(t *testing.T, name string, m msg.Msg, want api.Errno) {
	t.Helper()
	if b, err := msg.Put(m); err != want || b != nil {
		t.Errorf("%s, kind %d: Put is %d bytes, error %d, not %d", name, m.Kind, len(b), err, want)
	}
}

// expectGot gets a message of bytes.
func expectGot(t *testing.T, name string, b []byte, want msg.Msg) {
	t.Helper()
	if m, err := msg.Get(b); err != api.OK || !same(m, want) {
		t.Errorf("%s, kind %d: Get is another message, of kind %d, or error %d", name, want.Kind, m.Kind, err)
	}
}

// expectRefused gets a message of bytes in vain.
func expectRefused(t *testing.T, name string, b []byte, want api.Errno) {
	t.Helper()
	m, err := msg.Get(b)
	if err != want {
		t.Errorf("%s, %d bytes, %x..: error %d, not %d", name, len(b), b[:min(len(b), 8)], err, want)
	}
	if !same(m, msg.Msg{}) {
		t.Errorf("%s, %d bytes, %x..: a message beside error %d", name, len(b), b[:min(len(b), 8)], err)
	}
}

// bytesOf are a message's bytes.
func bytesOf(t *testing.T, m msg.Msg) []byte {
	t.Helper()
	b, err := msg.Put(m)
	if err != api.OK {
		t.Fatalf("kind %d: error %d", m.Kind, err)
	}
	return b
}

// P20.1

func TestKinds(t *testing.T) {
	kinds := []int{msg.Tells, msg.Pulls, msg.Gives, msg.Proves, msg.Asks, msg.Goes}
	if !slices.Equal(kinds, []int{1, 2, 3, 4, 5, 6}) {
		t.Error(kinds)
	}
}

func TestPutOfKindsThatThereAreNot(t *testing.T) {
	m := full(rand.New(rand.NewSource(1)), 1)
	for _, kind := range []int{0, -1, 7, 8, 255, 256, 257, 258, 261, 262, -250, -255, 1<<32 + 1, math.MaxInt, math.MinInt, math.MinInt + 1} {
		m.Kind = kind
		expectUnput(t, "no kind", m, api.ErrArg)
		expectUnput(t, "no kind, and nothing else", msg.Msg{Kind: kind}, api.ErrArg)
	}
	expectUnput(t, "nothing", msg.Msg{}, api.ErrArg)
}

// Of no kind it is told, ahead of too many.
func TestPutOfNoKindAndTooMany(t *testing.T) {
	r := rand.New(rand.NewSource(2))
	m := msg.Msg{Digest: digest.Digest{Keys: randomKeys(r, 33)}, Keys: randomKeys(r, 33), Path: randomHashes(r, 65)}
	for _, kind := range []int{0, 7, -1, 258} {
		m.Kind = kind
		expectUnput(t, "no kind, and too many", m, api.ErrArg)
	}
}

func TestKnownBytes(t *testing.T) {
	const first, second = "000102030405060708090a0b0c0d0e0f101112131415161718191a1b1c1d1e1f",
		"202122232425262728292a2b2c2d2e2f303132333435363738393a3b3c3d3e3f"
	low, high := api.Key{Size: 258, Root: root(0)}, api.Key{Size: math.MaxUint64, Root: root(32)}
	const lowText, highText = "0000000000000102" + first, "ffffffffffffffff" + second
	for _, c := range []struct {
		m    msg.Msg
		want string
	}{
		{msg.Msg{Kind: 1}, "01" + "0000"},
		{msg.Msg{Kind: 1, Digest: digest.Digest{Keys: []api.Key{low}, Frauds: []api.Hash{root(32)}}}, "01" + "01" + lowText + "01" + second},
		{msg.Msg{Kind: 2}, "02" + "00"},
		{msg.Msg{Kind: 2, Keys: []api.Key{}}, "02" + "00"},
		{msg.Msg{Kind: 2, Keys: []api.Key{high, low}}, "02" + "02" + highText + lowText},
		{msg.Msg{Kind: 5, Want: fetch.Want{Old: low, Now: high}}, "05" + lowText + highText},
		{msg.Msg{Kind: 5, Want: fetch.Want{Old: high, Now: low}}, "05" + highText + lowText},
		{msg.Msg{Kind: 6, Want: fetch.Want{Old: low, Now: high}}, "06" + lowText + highText + "00"},
		{msg.Msg{Kind: 6, Want: fetch.Want{Old: low, Now: high}, Path: []api.Hash{root(32), root(0)}}, "06" + lowText + highText + "02" + second + first},
	} {
		want, err := hex.DecodeString(c.want)
		if err != nil {
			t.Fatal(err)
		}
		expectPut(t, "known bytes", c.m, want)
		expectGot(t, "known bytes", want, c.m)
	}
}

func TestPutOfEmptyMessages(t *testing.T) {
	for kind, size := range []int{1: 3, 2: 2, 3: giveSize, 4: proveSize, 5: askSize, 6: askSize + 1} {
		if kind == 0 {
			continue
		}
		expectPut(t, "empty", msg.Msg{Kind: kind}, append([]byte{byte(kind)}, make([]byte, size-1)...))
	}
}

func TestPutOfHeadsAndProofs(t *testing.T) {
	r := rand.New(rand.NewSource(3))
	h, p := unsigned(r, randomKey(r)), proof(r)
	expectPut(t, "a head", msg.Msg{Kind: 3, Head: h}, append([]byte{3}, head.Put(h)...))
	expectPut(t, "a proof", msg.Msg{Kind: 4, Proof: p}, append([]byte{4}, fraud.Put(p)...))
}

// What isn't of a message's kind is not put, not even where it is too much.
func TestPutOfWhatIsOfOtherKinds(t *testing.T) {
	r := rand.New(rand.NewSource(4))
	for kind := 1; kind <= 6; kind++ {
		for range 5 {
			m := full(r, kind)
			expectPut(t, "all of it", m, plainPut(ofKind(m)))
			if kind != 1 {
				m.Digest = digest.Digest{Keys: randomKeys(r, 33), Frauds: randomHashes(r, 33)}
			}
			if kind != 2 {
				m.Keys = randomKeys(r, 300)
			}
			if kind != 6 {
				m.Path = randomHashes(r, 300)
			}
			expectPut(t, "too much of others", m, plainPut(ofKind(m)))
		}
	}
}

func TestPutOfManyAndTooManyKeys(t *testing.T) {
	r := rand.New(rand.NewSource(5))
	for _, many := range []int{0, 1, 2, 31, 32, 33, 34, 64, 65, 255, 256, 257, 288, 300} {
		m := msg.Msg{Kind: 2, Keys: randomKeys(r, many)}
		if many > 32 {
			expectUnput(t, "too many keys", m, api.ErrBig)
			continue
		}
		expectPut(t, "keys", m, plainPut(m))
	}
}

func TestPutOfManyAndTooManyHashes(t *testing.T) {
	r := rand.New(rand.NewSource(6))
	for _, many := range []int{0, 1, 2, 32, 33, 63, 64, 65, 66, 128, 255, 256, 257, 320, 400} {
		m := msg.Msg{Kind: 6, Want: fetch.Want{Old: randomKey(r), Now: randomKey(r)}, Path: randomHashes(r, many)}
		if many > 64 {
			expectUnput(t, "too many hashes", m, api.ErrBig)
			continue
		}
		expectPut(t, "hashes", m, plainPut(m))
	}
}

func TestPutOfTooGreatADigest(t *testing.T) {
	r := rand.New(rand.NewSource(7))
	for _, many := range [][2]int{{33, 0}, {0, 33}, {33, 33}, {256, 0}, {0, 256}} {
		d := digest.Digest{Keys: randomKeys(r, many[0]), Frauds: randomHashes(r, many[1])}
		expectUnput(t, "too great a digest", msg.Msg{Kind: 1, Digest: d}, api.ErrBig)
	}
	d := digest.Digest{Keys: randomKeys(r, 32), Frauds: randomHashes(r, 32)}
	expectPut(t, "the greatest digest", msg.Msg{Kind: 1, Digest: d}, plainPut(msg.Msg{Kind: 1, Digest: d}))
}

func TestPutChangesAndKeepsNothing(t *testing.T) {
	for kind := 1; kind <= 6; kind++ {
		made := func() msg.Msg { return full(rand.New(rand.NewSource(8)), kind) }
		m := made()
		want := plainPut(m)
		b := bytesOf(t, m)
		clear(m.Digest.Keys)
		clear(m.Digest.Frauds)
		clear(m.Keys)
		clear(m.Path)
		if !bytes.Equal(b, want) {
			t.Errorf("kind %d: bytes change with the message", kind)
		}
		m = made()
		clear(bytesOf(t, m))
		if !same(m, made()) {
			t.Errorf("kind %d: the message changes with its bytes", kind)
		}
		expectPut(t, "put again", m, want)
	}
}

// P20.2

func TestGetOfNoKind(t *testing.T) {
	expectRefused(t, "nil", nil, api.ErrShort)
	expectRefused(t, "no bytes", []byte{}, api.ErrShort)
	r := rand.New(rand.NewSource(9))
	for kind := range 256 {
		if kind >= 1 && kind <= 6 {
			continue
		}
		expectRefused(t, "no kind", []byte{byte(kind)}, api.ErrForm)
		expectRefused(t, "no kind, and too many", []byte{byte(kind), 255}, api.ErrForm)
		for of := 1; of <= 6; of++ {
			b := plainPut(full(r, of))
			b[0] = byte(kind)
			expectRefused(t, "another message of no kind", b, api.ErrForm)
		}
	}
}

func TestGetOfEachKind(t *testing.T) {
	r := rand.New(rand.NewSource(10))
	for kind := 1; kind <= 6; kind++ {
		for range 20 {
			m := full(r, kind)
			expectGot(t, "a message", plainPut(m), ofKind(m))
		}
	}
}

func TestGetOfTooFewBytes(t *testing.T) {
	r := rand.New(rand.NewSource(11))
	for kind := 1; kind <= 6; kind++ {
		for _, m := range []msg.Msg{full(r, kind), {Kind: kind}} {
			b := plainPut(m)
			for n := range len(b) {
				expectRefused(t, "cut short", b[:n], api.ErrShort)
			}
		}
	}
}

func TestGetOfTooManyBytes(t *testing.T) {
	r := rand.New(rand.NewSource(12))
	for kind := 1; kind <= 6; kind++ {
		b := plainPut(full(r, kind))
		for _, more := range []int{1, 2, 32, 40, 4233, 8466} {
			expectRefused(t, "bytes are left", append(slices.Clone(b), make([]byte, more)...), api.ErrLeft)
		}
	}
}

// What is behind the kind is refused as those below refuse it.
func TestGetTellsTheErrorsOfThoseBelow(t *testing.T) {
	r := rand.New(rand.NewSource(13))
	body := make([]byte, 9000)
	told := map[int]map[api.Errno]int{1: {}, 3: {}, 4: {}}
	for range 4000 {
		b := body[:r.Intn(len(body))]
		switch r.Intn(3) {
		case 0:
			b = body[:min(len(b), r.Intn(200))]
		case 1:
			b = body[:4233*(1+r.Intn(2))]
		}
		r.Read(b)
		if len(b) > 2 && r.Intn(2) == 0 {
			b[0], b[1] = byte(r.Intn(40)), byte(r.Intn(40))
		}
		if len(b) > 4273 && r.Intn(2) == 0 {
			// Two leaves that there are, so that it hangs on the two keys.
			b[40], b[4273] = b[40]%8, b[4273]%8
		}
		_, digestErr := digest.Get(b)
		_, headErr := head.Get(b)
		_, fraudErr := fraud.Get(b)
		for kind, want := range []api.Errno{1: digestErr, 3: headErr, 4: fraudErr} {
			if kind == 0 || kind == 2 || want == api.OK {
				continue
			}
			told[kind][want]++
			expectRefused(t, "those below", append([]byte{byte(kind)}, b...), want)
		}
	}
	if len(told[1]) != 3 || len(told[3]) != 3 || len(told[4]) != 3 {
		t.Errorf("too few errors to tell: %v", told)
	}
}

func TestGetOfHeadsThatAreNone(t *testing.T) {
	r := rand.New(rand.NewSource(14))
	h, p := unsigned(r, randomKey(r)), proof(r)
	h.Sig.Index = 8
	expectRefused(t, "a leaf that there isn't", plainPut(msg.Msg{Kind: 3, Head: h}), api.ErrForm)
	expectRefused(t, "heads in the other order", plainPut(msg.Msg{Kind: 4, Proof: fraud.Proof{A: p.B, B: p.A}}), api.ErrForm)
	expectRefused(t, "one head twice", plainPut(msg.Msg{Kind: 4, Proof: fraud.Proof{A: p.A, B: p.A}}), api.ErrForm)
	expectRefused(t, "heads of nothing", plainPut(msg.Msg{Kind: 4}), api.ErrForm)
	expectRefused(t, "a digest of too many", []byte{1, 33}, api.ErrBig)
}

// A number that is too great is refused as soon as it is read: whatever follows, or if nothing does.
func TestGetOfTooManyKeys(t *testing.T) {
	r := rand.New(rand.NewSource(15))
	for many := 33; many <= 255; many++ {
		expectRefused(t, "nothing follows", []byte{2, byte(many)}, api.ErrBig)
		expectRefused(t, "a few bytes follow", []byte{2, byte(many), 1, 2, 3}, api.ErrBig)
		b := plainPut(msg.Msg{Kind: 2, Keys: randomKeys(r, many)})
		expectRefused(t, "all of them", b, api.ErrBig)
		expectRefused(t, "all of them, and more", append(b, 1), api.ErrBig)
	}
}

func TestGetOfTooManyHashes(t *testing.T) {
	r := rand.New(rand.NewSource(16))
	for many := 65; many <= 255; many++ {
		b := plainPut(msg.Msg{Kind: 6, Want: fetch.Want{Old: randomKey(r), Now: randomKey(r)}, Path: randomHashes(r, many)})
		expectRefused(t, "nothing follows", b[:askSize+1], api.ErrBig)
		expectRefused(t, "a few bytes follow", b[:askSize+4], api.ErrBig)
		expectRefused(t, "all of them", b, api.ErrBig)
		expectRefused(t, "all of them, and more", append(b, 1), api.ErrBig)
	}
}

// The number of hashes isn't read of keys that end too early.
func TestGetOfKeysThatEndTooEarly(t *testing.T) {
	for n := range 81 {
		b := append([]byte{6}, bytes.Repeat([]byte{255}, n)...)
		expectRefused(t, "a path of keys that end too early", b, api.ErrShort)
	}
	expectRefused(t, "all bytes are the highest", append([]byte{6}, bytes.Repeat([]byte{255}, 81)...), api.ErrBig)
	expectRefused(t, "two keys, bytes of one", append([]byte{2, 2}, bytes.Repeat([]byte{255}, 40)...), api.ErrShort)
	oneOfTwo := append(plainPut(msg.Msg{Kind: 6})[:askSize], 2)
	expectRefused(t, "two hashes, bytes of one", append(oneOfTwo, make([]byte, 32)...), api.ErrShort)
	expectRefused(t, "no path, one hash", append(plainPut(msg.Msg{Kind: 6}), make([]byte, 32)...), api.ErrLeft)
}

func TestGetOfManyKeysAndHashes(t *testing.T) {
	r := rand.New(rand.NewSource(17))
	for many := range 65 {
		if many <= 32 {
			m := msg.Msg{Kind: 2, Keys: randomKeys(r, many)}
			expectGot(t, "keys", plainPut(m), m)
		}
		m := msg.Msg{Kind: 6, Want: fetch.Want{Old: randomKey(r), Now: randomKey(r)}, Path: randomHashes(r, many)}
		expectGot(t, "hashes", plainPut(m), m)
	}
}

func TestGetIsNewMemory(t *testing.T) {
	for kind := 1; kind <= 6; kind++ {
		want := ofKind(full(rand.New(rand.NewSource(18)), kind))
		b := plainPut(want)
		m, err := msg.Get(b)
		other, _ := msg.Get(b)
		if err != api.OK || !bytes.Equal(b, plainPut(want)) {
			t.Fatalf("kind %d: error %d, or the bytes are changed", kind, err)
		}
		clear(b)
		clear(other.Digest.Keys)
		clear(other.Digest.Frauds)
		clear(other.Keys)
		clear(other.Path)
		if !same(m, want) {
			t.Errorf("kind %d: the message changes with its bytes, or with another one", kind)
		}
	}
}

// Bytes behind those that are handed in aren't read, nor changed.
func TestGetReadsWhatIsHandedInAlone(t *testing.T) {
	r := rand.New(rand.NewSource(19))
	for kind := 1; kind <= 6; kind++ {
		want := ofKind(full(r, kind))
		b := plainPut(want)
		all := append(slices.Clone(b), bytes.Repeat([]byte{9}, 100)...)
		expectGot(t, "bytes that have others behind them", all[:len(b)], want)
		expectRefused(t, "cut short, with bytes behind them", all[:len(b)-1], api.ErrShort)
		if !bytes.Equal(all[:len(b)], b) || !bytes.Equal(all[len(b):], bytes.Repeat([]byte{9}, 100)) {
			t.Errorf("kind %d: bytes are changed", kind)
		}
	}
}

// P20.3

func TestWhatIsPutIsGot(t *testing.T) {
	r := rand.New(rand.NewSource(20))
	for kind := 1; kind <= 6; kind++ {
		for range 100 {
			m := full(r, kind)
			expectGot(t, "put and got", bytesOf(t, m), ofKind(m))
		}
	}
}

// One and the same may be there twice, in any order: that is kept as it is.
func TestWhatIsPutTwiceIsGotTwice(t *testing.T) {
	a, b := api.Key{Size: 9}, api.Key{Size: 1, Root: root(1)}
	for _, m := range []msg.Msg{
		{Kind: 1, Digest: digest.Digest{Keys: []api.Key{a, a, b, a}, Frauds: []api.Hash{root(1), {}, root(1)}}},
		{Kind: 2, Keys: []api.Key{a, b, a, {}, a}},
		{Kind: 5, Want: fetch.Want{Old: a, Now: a}},
		{Kind: 6, Want: fetch.Want{Old: a, Now: b}, Path: []api.Hash{{}, root(1), root(1), {}}},
	} {
		expectGot(t, "twice", bytesOf(t, m), m)
	}
}

func TestASignedHeadAndProofArePutAndGot(t *testing.T) {
	seed := root(5)
	signer, err := keys.NewSigner(seed, 0)
	if err != api.OK {
		t.Fatal(err)
	}
	a, _ := head.Sign(signer, api.Key{Size: 3, Root: root(1)})
	b, _ := head.Sign(signer, api.Key{Size: 3, Root: root(2)})
	p, err := fraud.Make(b, a)
	if err != api.OK {
		t.Fatal(err)
	}
	given, err := msg.Get(bytesOf(t, msg.Msg{Kind: msg.Gives, Head: b}))
	if err != api.OK || head.Verify(keys.Public(seed), given.Head) != api.OK {
		t.Errorf("the head is none behind it: error %d", err)
	}
	proved, err := msg.Get(bytesOf(t, msg.Msg{Kind: msg.Proves, Proof: p}))
	if err != api.OK || fraud.Verify(keys.Public(seed), proved.Proof) != api.OK {
		t.Errorf("the proof is none behind it: error %d", err)
	}
}

// drawn are bytes that begin as those of a message do, often.
func drawn(r *rand.Rand) []byte {
	b := make([]byte, 1+r.Intn(400))
	switch r.Intn(8) {
	case 0:
		b = make([]byte, giveSize)
	case 1:
		b = make([]byte, proveSize)
	case 2:
		b = make([]byte, askSize)
	}
	r.Read(b)
	b[0] = byte(r.Intn(8))
	switch {
	case b[0] == 2 && len(b) > 1:
		b[1] = byte(r.Intn(6))
		b = b[:min(len(b), 2+40*int(b[1]))]
	case b[0] == 3 && len(b) == giveSize:
		b[41] %= 8
	case b[0] == 4 && len(b) == proveSize:
		b[41], b[41+4233] = b[41]%8, b[41+4233]%8
		copy(b[1+4233:], b[1:1+8+r.Intn(3)])
	case b[0] == 6 && len(b) > askSize:
		b[askSize] = byte(r.Intn(6))
		b = b[:min(len(b), askSize+1+32*int(b[askSize]))]
	}
	return b
}

func TestWhatIsGotIsPutAsTheSameBytes(t *testing.T) {
	r := rand.New(rand.NewSource(21))
	var got [8]int
	for range 20000 {
		b := drawn(r)
		m, err := msg.Get(b)
		if err != api.OK {
			continue
		}
		got[m.Kind]++
		expectPut(t, "got and put", m, b)
		if !same(m, ofKind(m)) {
			t.Errorf("kind %d has something of another one", m.Kind)
		}
	}
	for _, kind := range []int{2, 3, 4, 5, 6} {
		if got[kind] < 50 {
			t.Errorf("%d of kind %d were got: too few to tell", got[kind], kind)
		}
	}
}

// A change of one byte is refused, or is another message, which is put as these bytes.
func TestEachByteCounts(t *testing.T) {
	r := rand.New(rand.NewSource(22))
	for kind := 1; kind <= 6; kind++ {
		m := ofKind(full(r, kind))
		b := plainPut(m)
		for at := range b {
			if at > 200 && r.Intn(10) > 0 {
				continue
			}
			b[at] ^= 1 << r.Intn(8)
			other, err := msg.Get(b)
			if err == api.OK && same(other, m) {
				t.Errorf("kind %d: byte %d does not count", kind, at)
			}
			if err == api.OK {
				expectPut(t, "another message", other, b)
			}
			b = plainPut(m)
		}
	}
}
