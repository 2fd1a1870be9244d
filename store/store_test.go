package store_test

import (
	"bytes"
	"encoding/binary"
	"math"
	"math/rand"
	"slices"
	"strconv"
	"testing"

	"assayer/api"
	"assayer/disk"
	"assayer/fraud"
	"assayer/head"
	"assayer/heads"
	"assayer/keys"
	"assayer/lamport"
	"assayer/score"
	"assayer/store"
	"assayer/wal"
)

// Bytes of a record's frame in the log.
const (
	headFrame  = 8 + 1 + 4233
	linkFrame  = 8 + 1 + 80
	proofFrame = 8 + 1 + 8466
	peerFrame  = 8 + 1 + 5
)

// counted is the hash whose bytes are 0 to 31: the log's seed.
func counted() api.Hash {
	var h api.Hash
	for i := range h {
		h[i] = byte(i)
	}
	return h
}

// config is one of a log, with room for four heads.
func config() store.Config {
	return store.Config{Public: public, Room: 4, Peers: 6, Limit: 10, Hold: 3}
}

// What takes long is made once.
var (
	public = keys.Public(counted())
	made   = map[signing]head.Head{}
)

type signing struct {
	seed api.Hash
	leaf int
	key  api.Key
}

// key is one of a size, and a root that begins with some bytes.
func key(size uint64, root ...byte) api.Key {
	k := api.Key{Size: size}
	copy(k.Root[:], root)
	return k
}

// by is a head that a seed signs with a leaf.
func by(seed api.Hash, leaf int, k api.Key) head.Head {
	what := signing{seed, leaf, k}
	if h, ok := made[what]; ok {
		return h
	}
	s, _ := keys.NewSigner(seed, leaf)
	h, err := head.Sign(s, k)
	if err != api.OK {
		panic(err)
	}
	made[what] = h
	return h
}

// signed is a head that the log signs.
func signed(size uint64, root ...byte) head.Head { return by(counted(), 0, key(size, root...)) }

// again is a head of the same key, signed with another leaf.
func again(h head.Head) head.Head { return by(counted(), 5, h.Key) }

// forged is a head that somebody else signs.
func forged(size uint64, root ...byte) head.Head { return by(api.Hash{9}, 1, key(size, root...)) }

// unsigned is a head of a key that nobody signs, and whose hashes are all drawn.
func unsigned(r *rand.Rand, k api.Key) head.Head {
	h := head.Head{Key: k, Sig: keys.Sig{Index: uint8(r.Intn(8))}}
	for i := range h.Sig.One {
		h.Sig.One[i] = lamport.Pair{drawn(r), drawn(r)}
	}
	for i := range h.Sig.Path {
		h.Sig.Path[i] = drawn(r)
	}
	return h
}

func drawn(r *rand.Rand) api.Hash {
	var h api.Hash
	r.Read(h[:])
	return h
}

// proof is that of two heads.
func proof(t *testing.T, a, b head.Head) fraud.Proof {
	t.Helper()
	p, err := fraud.Make(a, b)
	if err != api.OK {
		t.Fatalf("a proof of %v and %v: error %d", a.Key, b.Key, err)
	}
	return p
}

// doubt is the record of two heads.
func doubt(t *testing.T, old, now head.Head) fraud.Challenge {
	t.Helper()
	c, err := fraud.Doubt(old, now)
	if err != api.OK {
		t.Fatalf("a record of %v and %v: error %d", old.Key, now.Key, err)
	}
	return c
}

// proofs are so many, each of a size of its own.
func proofs(t *testing.T, n int) []fraud.Proof {
	t.Helper()
	var l []fraud.Proof
	for i := range n {
		l = append(l, proof(t, signed(uint64(i), 1), signed(uint64(i), 2)))
	}
	return l
}

// doubts are so many, from one size to others.
func doubts(t *testing.T, n int) []fraud.Challenge {
	t.Helper()
	var l []fraud.Challenge
	for i := range n {
		l = append(l, doubt(t, signed(1, 1), signed(uint64(2+i), 1)))
	}
	return l
}

// byId is proofs by their names, rising.
func byId(l ...fraud.Proof) []fraud.Proof {
	return slices.SortedFunc(slices.Values(l), func(a, b fraud.Proof) int {
		one, other := fraud.Id(a), fraud.Id(b)
		return bytes.Compare(one[:], other[:])
	})
}

// plainKey, plainHead and the others are bytes by the library.
func plainKey(k api.Key) []byte {
	return append(binary.BigEndian.AppendUint64(nil, k.Size), k.Root[:]...)
}

func plainHead(h head.Head) []byte {
	b := append(plainKey(h.Key), h.Sig.Index)
	for _, halves := range h.Sig.One {
		b = append(append(b, halves[0][:]...), halves[1][:]...)
	}
	for _, step := range h.Sig.Path {
		b = append(b, step[:]...)
	}
	return b
}

func record(kind byte, parts ...[]byte) []byte {
	return slices.Concat([]byte{kind}, slices.Concat(parts...))
}

func headOf(h head.Head) []byte { return record(1, plainHead(h)) }

func linkOf(old, now api.Key) []byte { return record(2, plainKey(old), plainKey(now)) }

func fraudOf(p fraud.Proof) []byte { return record(3, plainHead(p.A), plainHead(p.B)) }

func doubtOf(c fraud.Challenge) []byte { return record(4, plainHead(c.Old), plainHead(c.Now)) }

func peerOf(peer, points, left int) []byte {
	b := []byte{5, byte(peer)}
	b = binary.BigEndian.AppendUint16(b, uint16(points))
	return binary.BigEndian.AppendUint16(b, uint16(left))
}

// blank is a disk of n blocks.
func blank(t *testing.T, n int) *disk.Disk {
	t.Helper()
	d, err := disk.New(n)
	if err != api.OK {
		t.Fatalf("a disk of %d blocks: error %d", n, err)
	}
	return d
}

// laid is a disk whose log has records.
func laid(t *testing.T, rows ...[]byte) *disk.Disk {
	t.Helper()
	return laidOn(t, blank(t, 8000), rows...)
}

// laidOn lets a disk's log have more records.
func laidOn(t *testing.T, d *disk.Disk, rows ...[]byte) *disk.Disk {
	t.Helper()
	l, err := wal.Open(d)
	for _, b := range rows {
		err = max(err, l.Append(b))
	}
	if err = max(err, l.Sync()); err != api.OK {
		t.Fatalf("%d records: error %d", len(rows), err)
	}
	return d
}

// opened is a store on a disk, which may be.
func opened(t *testing.T, d *disk.Disk, c store.Config) *store.Store {
	t.Helper()
	s, err := store.Open(d, c)
	if err != api.OK || s == nil {
		t.Fatalf("Open: error %d", err)
	}
	return s
}

// fresh is a store that knows nothing, and its disk.
func fresh(t *testing.T, n int) (*store.Store, *disk.Disk) {
	t.Helper()
	d := blank(t, n)
	return opened(t, d, config()), d
}

// expectRefused opens a disk in vain.
func expectRefused(t *testing.T, name string, d *disk.Disk, c store.Config, want api.Errno) {
	t.Helper()
	if s, err := store.Open(d, c); s != nil || err != want {
		t.Errorf("%s: Open: %v, error %d, want %d", name, s != nil, err, want)
	}
}

// expect holds an error against that which a call should tell.
func expect(t *testing.T, name string, got, want api.Errno) {
	t.Helper()
	if got != want {
		t.Errorf("%s: error %d, want %d", name, got, want)
	}
}

// ok lets calls go, all of which should.
func ok(t *testing.T, got ...api.Errno) {
	t.Helper()
	for i, err := range got {
		if err != api.OK {
			t.Fatalf("call %d: error %d", i, err)
		}
	}
}

// rowsOf is the records of a disk's log that are sure.
func rowsOf(t *testing.T, d *disk.Disk) [][]byte {
	t.Helper()
	l, err := wal.Open(d)
	if err != api.OK {
		t.Fatalf("the log: error %d", err)
	}
	return l.Records()
}

// expectRows holds the records of a disk's log that are sure against what they
// should be.
func expectRows(t *testing.T, d *disk.Disk, want ...[]byte) {
	t.Helper()
	got := rowsOf(t, d)
	if len(got) != len(want) {
		t.Errorf("%d records, want %d", len(got), len(want))
		return
	}
	for i, b := range got {
		if !bytes.Equal(b, want[i]) {
			t.Errorf("record %d: kind %d, %d bytes, want kind %d, %d bytes, or others", i, b[0], len(b), want[i][0], len(want[i]))
		}
	}
}

func expectLoose(t *testing.T, d *disk.Disk, want int) {
	t.Helper()
	if got := d.Loose(); got != want {
		t.Errorf("%d writes are loose, want %d", got, want)
	}
}

// expectHeads holds all heads against those that should be known, each ahead of the
// next one.
func expectHeads(t *testing.T, s *store.Store, want ...head.Head) {
	t.Helper()
	var l []api.Key
	for _, h := range want {
		l = append(l, h.Key)
		if got, ok := s.Get(h.Key); !ok || got != h {
			t.Errorf("Get of %v: %v, or another head", h.Key, ok)
		}
	}
	if got := s.Keys(); !slices.Equal(got, l) {
		t.Errorf("Keys: %v, want %v", got, l)
	}
}

func expectLinked(t *testing.T, s *store.Store, old, now api.Key, want bool) {
	t.Helper()
	if got := s.Linked(old, now); got != want {
		t.Errorf("Linked of %v and %v: %v", old, now, got)
	}
}

func expectFrauds(t *testing.T, s *store.Store, want ...fraud.Proof) {
	t.Helper()
	if got := s.Frauds(); !slices.Equal(got, want) {
		t.Errorf("%d proofs, want %d, or others", len(got), len(want))
	}
}

func expectDoubts(t *testing.T, s *store.Store, want ...fraud.Challenge) {
	t.Helper()
	if got := s.Doubts(); !slices.Equal(got, want) {
		t.Errorf("%d records of doubt, want %d, or others", len(got), len(want))
	}
}

func expectPeer(t *testing.T, s *store.Store, peer, points, left int) {
	t.Helper()
	if got, ok := s.Peer(peer); !ok || got != (score.Peer{Points: points, Left: left}) {
		t.Errorf("peer %d: %v, %v, want %d points, %d left", peer, got, ok, points, left)
	}
}

func expectPeers(t *testing.T, name string, got []int, want ...int) {
	t.Helper()
	if !slices.Equal(got, want) {
		t.Errorf("%s: %v, want %v", name, got, want)
	}
}

// expectNothing asks for all that may be known, of which nothing is.
func expectNothing(t *testing.T, s *store.Store) {
	t.Helper()
	expectHeads(t, s)
	expectFrauds(t, s)
	expectDoubts(t, s)
	for _, k := range []api.Key{{}, key(1), key(5, 3), key(math.MaxUint64, 255)} {
		if h, ok := s.Get(k); ok || h != (head.Head{}) {
			t.Errorf("Get of %v: %v, or a head", k, ok)
		}
		if h, ok := s.Rival(k); ok || h != (head.Head{}) {
			t.Errorf("Rival of %v: %v, or a head", k, ok)
		}
		expectLinked(t, s, key(1), k, false)
	}
	if h, ok := s.Latest(); ok || h != (head.Head{}) {
		t.Errorf("Latest: %v, or a head", ok)
	}
}

// kill lets a disk be dead.
func kill(t *testing.T, d *disk.Disk) {
	t.Helper()
	d.Fail(0)
	if err := d.Sync(); err != api.ErrDown {
		t.Fatalf("Sync: error %d, want that of a dead disk", err)
	}
}

// P16.1

// bad are configs that may not be.
func bad() map[string]store.Config {
	all := map[string]store.Config{}
	set := func(name string, n int, change func(c *store.Config)) {
		c := config()
		change(&c)
		all[name+" "+strconv.Itoa(n)] = c
	}
	for _, n := range []int{0, -1, math.MinInt, 65, math.MaxInt} {
		set("Room", n, func(c *store.Config) { c.Room = n })
		set("Peers", n, func(c *store.Config) { c.Peers = n })
	}
	for _, n := range []int{0, -1, math.MinInt, 1001, math.MaxInt} {
		set("Limit", n, func(c *store.Config) { c.Limit = n })
		set("Hold", n, func(c *store.Config) { c.Hold = n })
	}
	return all
}

// Configs that may not be are told of ahead of the disk, and of its records.
func TestOpenOfConfigsThatMayNotBe(t *testing.T) {
	dead, wrong := blank(t, 100), laid(t, []byte{9})
	kill(t, dead)
	for name, c := range bad() {
		expectRefused(t, name, blank(t, 100), c, api.ErrArg)
		expectRefused(t, name+", nil disk", nil, c, api.ErrArg)
		expectRefused(t, name+", dead disk", dead, c, api.ErrArg)
		expectRefused(t, name+", wrong record", wrong, c, api.ErrArg)
	}
	expectRefused(t, "dead disk", dead, config(), api.ErrDown)
	expectRefused(t, "wrong record", wrong, config(), api.ErrForm)
}

func TestOpenOfDisksThatMayNotBe(t *testing.T) {
	expectRefused(t, "nil", nil, config(), api.ErrArg)
	for n := 1; n <= 3; n++ {
		d := blank(t, n)
		expectRefused(t, "few blocks", d, config(), api.ErrArg)
		kill(t, d)
		expectRefused(t, "few blocks, dead", d, config(), api.ErrArg)
	}
	expectRefused(t, "no disk", &disk.Disk{}, config(), api.ErrArg)
	d := laid(t, headOf(signed(1)), headOf(signed(2)))
	b, err := d.Read(20)
	b[17] ^= 1
	ok(t, err, d.Write(20, b), d.Sync())
	expectRefused(t, "a sum", d, config(), api.ErrSum)
	kill(t, d)
	expectRefused(t, "dead", d, config(), api.ErrDown)
	d = laid(t, headOf(signed(1)))
	b, err = d.Read(2)
	b[2] ^= 128 // more than 16384 bytes
	ok(t, err, d.Write(2, b), d.Sync())
	expectRefused(t, "a frame", d, config(), api.ErrForm)
}

func TestOpenOfNoRecords(t *testing.T) {
	least := store.Config{Room: 1, Peers: 1, Limit: 1, Hold: 1}
	most := store.Config{Public: public, Room: 64, Peers: 64, Limit: 1000, Hold: 1000}
	for _, c := range []store.Config{config(), least, most} {
		for _, n := range []int{4, 5, 1000} {
			d := blank(t, n)
			// It writes nothing, and syncs nothing.
			d.Fail(0)
			s := opened(t, d, c)
			expectNothing(t, s)
			expect(t, "Err", s.Err(), api.OK)
			for peer := range c.Peers {
				expectPeer(t, s, peer, 0, 0)
			}
			if p, ok := s.Peer(c.Peers); ok {
				t.Errorf("peer %d, which there isn't: %v", c.Peers, p)
			}
			if got := s.Peers(); len(got) != c.Peers {
				t.Errorf("Peers: %v, want %d", got, c.Peers)
			}
			expect(t, "Sync", s.Sync(), api.OK)
			expectLoose(t, d, 0)
		}
	}
}

func TestOpenDoesEachKind(t *testing.T) {
	a, b := signed(3, 1), signed(7, 2)
	p, c := proof(t, signed(7, 2), signed(7, 4)), doubt(t, signed(3, 1), signed(9, 1))
	d := laid(t, headOf(b), headOf(a), linkOf(a.Key, b.Key), fraudOf(p), doubtOf(c), peerOf(4, 9, 3), peerOf(0, 0, 1))
	d.Fail(0)
	s := opened(t, d, config())
	expectHeads(t, s, a, b)
	expectLinked(t, s, a.Key, b.Key, true)
	expectFrauds(t, s, p)
	expectDoubts(t, s, c)
	expectPeer(t, s, 4, 9, 3)
	expectPeer(t, s, 0, 0, 1)
	expectPeer(t, s, 5, 0, 0)
	expectPeers(t, "Peers", s.Peers(), 1, 2, 3, 5)
	expectLoose(t, d, 0)
	// Nobody has changed since, so there is nothing to write.
	expect(t, "Sync", s.Sync(), api.OK)
}

// Each kind alone tells nothing of the others.
func TestOpenDoesOneKindAlone(t *testing.T) {
	h := signed(7, 2)
	p, c := proof(t, h, signed(7, 4)), doubt(t, h, signed(9, 1))
	s := opened(t, laid(t, fraudOf(p), doubtOf(c)), config())
	expectHeads(t, s)
	expectFrauds(t, s, p)
	expectDoubts(t, s, c)
	s = opened(t, laid(t, doubtOf(c)), config())
	expectFrauds(t, s)
	expectDoubts(t, s, c)
	s = opened(t, laid(t, headOf(h), headOf(signed(7, 4)), headOf(signed(9, 1))), config())
	expectHeads(t, s, h, signed(7, 4), signed(9, 1))
	expectFrauds(t, s)
	expectDoubts(t, s)
	expectLinked(t, s, h.Key, key(9, 1), false)
}

// Signatures were asked for when the record was written, and aren't again.
func TestOpenAsksForNoSignatures(t *testing.T) {
	r := rand.New(rand.NewSource(1))
	a, b, now := unsigned(r, key(3, 1)), unsigned(r, key(3, 2)), unsigned(r, key(4))
	p, c := fraud.Proof{A: a, B: b}, fraud.Challenge{Old: b, Now: now}
	s := opened(t, laid(t, headOf(a), fraudOf(p), doubtOf(c)), config())
	expectHeads(t, s, a)
	expectFrauds(t, s, p)
	expectDoubts(t, s, c)
	other := config()
	other.Public = api.Hash{}
	expectHeads(t, opened(t, laid(t, headOf(signed(5))), other), signed(5))
}

// wrong are bytes that are no record.
func wrong(t *testing.T) map[string][]byte {
	t.Helper()
	a, b, c := signed(3, 1), signed(3, 2), signed(4, 1)
	zero := signed(0)
	off := a
	off.Sig.Index = 8
	all := map[string][]byte{
		"empty":                     {},
		"a head's index":            headOf(off),
		"a proof in no order":       record(3, plainHead(b), plainHead(a)),
		"a proof of one head":       record(3, plainHead(a), plainHead(a)),
		"a proof of two sizes":      record(3, plainHead(a), plainHead(c)),
		"a proof's index":           record(3, plainHead(off), plainHead(b)),
		"a proof that is one head":  record(3, plainHead(a)),
		"a record in no order":      record(4, plainHead(c), plainHead(a)),
		"a record of one size":      record(4, plainHead(a), plainHead(b)),
		"a record from nothing":     record(4, plainHead(zero), plainHead(a)),
		"a record's index":          record(4, plainHead(off), plainHead(c)),
		"a record that is one head": record(4, plainHead(a)),
		"a link that is one key":    record(2, plainKey(a.Key)),
		"a link of three keys":      record(2, plainKey(a.Key), plainKey(b.Key), plainKey(c.Key)),
	}
	right := map[string][]byte{
		"head":   headOf(a),
		"link":   linkOf(a.Key, c.Key),
		"proof":  record(3, plainHead(a), plainHead(b)),
		"record": record(4, plainHead(a), plainHead(c)),
		"peer":   peerOf(1, 2, 3),
	}
	for name, whole := range right {
		for _, n := range []int{1, 2, len(whole) / 2, len(whole) - 2, len(whole) - 1} {
			all["a "+name+" of too few bytes, "+strconv.Itoa(n)] = whole[:n]
		}
		for _, n := range []int{1, 2, 100} {
			all["a "+name+" of too many bytes, "+strconv.Itoa(n)] = append(slices.Clone(whole), make([]byte, n)...)
		}
	}
	for kind := range 256 {
		if kind == 0 || kind > 5 {
			for name, whole := range right {
				all["a "+name+" of kind "+strconv.Itoa(kind)] = record(byte(kind), whole[1:])
			}
			all["kind "+strconv.Itoa(kind)+" alone"] = []byte{byte(kind)}
		}
	}
	return all
}

func TestOpenOfWhatIsNoRecord(t *testing.T) {
	for name, b := range wrong(t) {
		expectRefused(t, name, laid(t, b), config(), api.ErrForm)
		expectRefused(t, name+", behind others", laid(t, headOf(signed(1)), peerOf(1, 1, 1), b), config(), api.ErrForm)
		expectRefused(t, name+", ahead of others", laid(t, b, headOf(signed(1))), config(), api.ErrForm)
	}
}

// Just so many bytes: of links and peers each number of them.
func TestOpenOfEachNumberOfBytes(t *testing.T) {
	a, b := signed(3), signed(4)
	for n := range 200 {
		link := make([]byte, 200)
		copy(link, linkOf(a.Key, b.Key))
		peer := make([]byte, 200)
		copy(peer, peerOf(2, 9, 3))
		if n != 81 {
			expectRefused(t, "a link", laid(t, headOf(a), headOf(b), link[:n]), config(), api.ErrForm)
		}
		if n != 6 {
			expectRefused(t, "a peer", laid(t, peer[:n]), config(), api.ErrForm)
		}
	}
	expectLinked(t, opened(t, laid(t, headOf(a), headOf(b), linkOf(a.Key, b.Key)), config()), a.Key, b.Key, true)
	expectPeer(t, opened(t, laid(t, peerOf(2, 9, 3)), config()), 2, 9, 3)
}

// A record that can't be done is passed over.
func TestErrorsOfWhatIsDoneCountForNothing(t *testing.T) {
	a, b, c := signed(3, 1), signed(3, 2), signed(4, 1)
	s := opened(t, laid(t,
		linkOf(a.Key, c.Key), // not held yet
		headOf(a), headOf(again(a)), headOf(b), headOf(c),
		linkOf(a.Key, b.Key), linkOf(c.Key, a.Key), linkOf(a.Key, a.Key), linkOf(a.Key, key(5)), linkOf(key(1), c.Key),
		headOf(signed(5)), headOf(signed(6)), // the room is used up
		linkOf(b.Key, c.Key),
	), config())
	expectHeads(t, s, a, b, c, signed(5))
	for _, old := range s.Keys() {
		for _, now := range s.Keys() {
			expectLinked(t, s, old, now, old == b.Key && now == c.Key)
		}
	}
	expect(t, "Err", s.Err(), api.OK)

	p, q := proof(t, a, b), doubt(t, a, c)
	s = opened(t, laid(t,
		fraudOf(p), fraudOf(proof(t, again(b), again(a))),
		doubtOf(q), doubtOf(doubt(t, again(a), again(c))),
	), config())
	expectFrauds(t, s, p)
	expectDoubts(t, s, q)

	s = opened(t, laid(t,
		peerOf(1, 9, 3), peerOf(1, 10, 0), peerOf(1, 9, 4), peerOf(1, 65535, 0), peerOf(1, 0, 65535),
		peerOf(6, 1, 1), peerOf(255, 1, 1), peerOf(2, 1, 1), peerOf(2, 2, 0),
	), config())
	expectPeer(t, s, 1, 9, 3)
	expectPeer(t, s, 2, 2, 0)
	expectPeers(t, "Peers", s.Peers(), 0, 2, 3, 4, 5)
}

// Of more than there may be the first ones are known.
func TestOpenOfMoreThanMayBe(t *testing.T) {
	all, records := proofs(t, 34), doubts(t, 34)
	var rows [][]byte
	for _, p := range all {
		rows = append(rows, fraudOf(p))
	}
	for _, c := range records {
		rows = append(rows, doubtOf(c))
	}
	s := opened(t, laid(t, rows...), config())
	expectFrauds(t, s, byId(all[:32]...)...)
	expectDoubts(t, s, records[:32]...)
}

// In order: a head is given up just as it was, and comes back without its links.
func TestRecordsAreDoneInOrder(t *testing.T) {
	c := config()
	c.Room = 2
	a, b, e := signed(1), signed(2), signed(3)
	s := opened(t, laid(t, headOf(a), headOf(b), linkOf(a.Key, b.Key), headOf(e)), c)
	expectHeads(t, s, b, e)
	expectLinked(t, s, a.Key, b.Key, false)
	s = opened(t, laid(t, headOf(a), headOf(b), headOf(e), linkOf(a.Key, b.Key)), c)
	expectHeads(t, s, a, b)
	expectLinked(t, s, a.Key, b.Key, true)
	s = opened(t, laid(t, headOf(a), headOf(b), linkOf(a.Key, b.Key), headOf(e), linkOf(b.Key, e.Key), headOf(again(a))), c)
	expectHeads(t, s, again(a), e)
	expectLinked(t, s, a.Key, b.Key, false)
	s = opened(t, laid(t, peerOf(1, 3, 1), peerOf(2, 2, 2), peerOf(1, 0, 0)), c)
	expectPeer(t, s, 1, 0, 0)
	expectPeer(t, s, 2, 2, 2)
}

// P16.2

// The chapter's example.
func TestHeadSyncCrash(t *testing.T) {
	s, d := fresh(t, 100)
	h := signed(5, 2)
	ok(t, s.Head(h), s.Sync())
	d.Crash(nil)
	expectHeads(t, opened(t, d, config()), h)
}

// Each thing is written as its record, as soon as it is known.
func TestWhatIsWritten(t *testing.T) {
	s, d := fresh(t, 1000)
	a, b, e := signed(3, 1), signed(3, 2), signed(300, 7)
	p, c := proof(t, b, a), doubt(t, b, e)
	var want [][]byte
	for _, step := range []struct {
		row  []byte
		call func() api.Errno
	}{
		{headOf(e), func() api.Errno { return s.Head(e) }},
		{headOf(a), func() api.Errno { return s.Head(a) }},
		{linkOf(a.Key, e.Key), func() api.Errno { return s.Link(a.Key, e.Key) }},
		{fraudOf(p), func() api.Errno { return s.Fraud(p) }},
		{doubtOf(c), func() api.Errno { return s.Doubt(c) }},
		{headOf(b), func() api.Errno { return s.Head(b) }},
		{linkOf(b.Key, e.Key), func() api.Errno { return s.Link(b.Key, e.Key) }},
		// What is linked once more is written once more.
		{linkOf(a.Key, e.Key), func() api.Errno { return s.Link(a.Key, e.Key) }},
	} {
		loose := d.Loose()
		ok(t, step.call())
		if d.Loose() == loose {
			t.Errorf("a record of kind %d wasn't written at once", step.row[0])
		}
		want = append(want, step.row)
	}
	expectRows(t, d)
	ok(t, s.Sync())
	expectRows(t, d, want...)
	expectHeads(t, s, a, b, e)
	expectLinked(t, s, a.Key, e.Key, true)
	expectLinked(t, s, b.Key, e.Key, true)
	expectFrauds(t, s, p)
	expectDoubts(t, s, c)
}

func TestHeadThatIsRefused(t *testing.T) {
	s, d := fresh(t, 1000)
	a := signed(3, 1)
	ok(t, s.Head(a), s.Sync())
	d.Fail(0) // nothing of all this is written
	moved := signed(4, 1)
	moved.Key.Size = 5
	off := signed(4, 1)
	off.Sig.Index = 8
	for _, h := range []head.Head{{}, forged(4, 1), moved, off, forged(3, 1)} {
		expect(t, "Head that isn't signed", s.Head(h), api.ErrSig)
	}
	expect(t, "Head twice", s.Head(a), api.ErrTwice)
	expect(t, "Head of the same key", s.Head(again(a)), api.ErrTwice)
	broken := a
	broken.Sig.One[3][1][4] ^= 16
	// The signature is asked for ahead of whether it is held.
	expect(t, "Head of the same key, not signed", s.Head(broken), api.ErrSig)
	expectHeads(t, s, a)
	expect(t, "Err", s.Err(), api.OK)
	expect(t, "Sync", s.Sync(), api.OK)
	expectRows(t, d, headOf(a))
}

func TestHeadWithoutRoom(t *testing.T) {
	s, d := fresh(t, 1000)
	a, b, c, e := signed(3, 1), signed(3, 2), signed(4, 1), signed(5, 1)
	ok(t, s.Head(a), s.Head(b), s.Head(c), s.Head(e), s.Sync())
	more := signed(6)
	expect(t, "Head without room", s.Head(more), api.ErrFull)
	expect(t, "Head without room, not signed", s.Head(forged(6)), api.ErrSig)
	expect(t, "Head without room, twice", s.Head(c), api.ErrTwice)
	expect(t, "Err", s.Err(), api.OK)
	expectHeads(t, s, a, b, c, e)
	ok(t, s.Link(b.Key, c.Key))
	ok(t, s.Head(more), s.Sync())
	expectHeads(t, s, a, c, e, more)
	expectRows(t, d, headOf(a), headOf(b), headOf(c), headOf(e), linkOf(b.Key, c.Key), headOf(more))
	expectHeads(t, opened(t, d, config()), a, c, e, more)
}

func TestLinkThatIsRefused(t *testing.T) {
	s, d := fresh(t, 1000)
	a, b, c := signed(3, 1), signed(3, 2), signed(4, 1)
	ok(t, s.Head(a), s.Head(b), s.Head(c), s.Sync())
	d.Fail(0)
	expect(t, "Link of one that isn't held", s.Link(key(1), c.Key), api.ErrNone)
	expect(t, "Link to one that isn't held", s.Link(c.Key, key(5)), api.ErrNone)
	expect(t, "Link of a greater one that isn't held", s.Link(key(5), c.Key), api.ErrNone)
	expect(t, "Link of one size", s.Link(a.Key, b.Key), api.ErrArg)
	expect(t, "Link of a greater one", s.Link(c.Key, b.Key), api.ErrArg)
	expect(t, "Link of itself", s.Link(c.Key, c.Key), api.ErrArg)
	for _, old := range s.Keys() {
		for _, now := range s.Keys() {
			expectLinked(t, s, old, now, false)
		}
	}
	expect(t, "Err", s.Err(), api.OK)
	expect(t, "Sync", s.Sync(), api.OK)
	expectRows(t, d, headOf(a), headOf(b), headOf(c))
}

func TestFraudThatIsRefused(t *testing.T) {
	s, d := fresh(t, 1000)
	a, b, c := signed(3, 1), signed(3, 2), signed(4, 1)
	p := proof(t, a, b)
	ok(t, s.Fraud(p), s.Sync())
	d.Fail(0)
	for name, q := range map[string]fraud.Proof{
		"no order":  {A: b, B: a},
		"one head":  {A: a, B: a},
		"two sizes": {A: a, B: c},
		"nothing":   {},
	} {
		expect(t, name, s.Fraud(q), api.ErrForm)
	}
	for name, q := range map[string]fraud.Proof{
		"the first one forged":  {A: forged(3, 1), B: b},
		"the second one forged": {A: a, B: forged(3, 2)},
		"both forged":           {A: forged(8, 1), B: forged(8, 2)},
	} {
		expect(t, name, s.Fraud(q), api.ErrSig)
	}
	expect(t, "twice", s.Fraud(p), api.ErrTwice)
	expect(t, "other signatures", s.Fraud(proof(t, again(b), a)), api.ErrTwice)
	expectFrauds(t, s, p)
	expectHeads(t, s)
	expect(t, "Err", s.Err(), api.OK)
	expect(t, "Sync", s.Sync(), api.OK)
	expectRows(t, d, fraudOf(p))
}

func TestDoubtThatIsRefused(t *testing.T) {
	s, d := fresh(t, 1000)
	a, b, c := signed(3, 1), signed(3, 2), signed(4, 1)
	q := doubt(t, a, c)
	ok(t, s.Doubt(q), s.Sync())
	d.Fail(0)
	for name, o := range map[string]fraud.Challenge{
		"the other way": {Old: c, Now: a},
		"one size":      {Old: a, Now: b},
		"one head":      {Old: a, Now: a},
		"from nothing":  {Old: signed(0), Now: a},
		"nothing":       {},
	} {
		expect(t, name, s.Doubt(o), api.ErrForm)
	}
	for name, o := range map[string]fraud.Challenge{
		"the old one forged": {Old: forged(3, 1), Now: c},
		"the new one forged": {Old: a, Now: forged(4, 1)},
		"both forged":        {Old: forged(8), Now: forged(9)},
	} {
		expect(t, name, s.Doubt(o), api.ErrSig)
	}
	expect(t, "twice", s.Doubt(q), api.ErrTwice)
	expect(t, "other signatures", s.Doubt(doubt(t, again(a), again(c))), api.ErrTwice)
	expectDoubts(t, s, q)
	expectHeads(t, s)
	expect(t, "Err", s.Err(), api.OK)
	expect(t, "Sync", s.Sync(), api.OK)
	expectRows(t, d, doubtOf(q))
	d.Fail(-1)
	// Each of both keys has to be the same.
	ok(t, s.Doubt(doubt(t, b, c)), s.Doubt(doubt(t, a, signed(4, 2))), s.Doubt(doubt(t, a, signed(5, 1))), s.Doubt(doubt(t, signed(2, 1), c)))
	expectDoubts(t, s, q, doubt(t, b, c), doubt(t, a, signed(4, 2)), doubt(t, a, signed(5, 1)), doubt(t, signed(2, 1), c))
}

// There are 32 of each at most; ErrTwice comes ahead of that, and neither stays.
func TestMoreThanMayBe(t *testing.T) {
	s, d := fresh(t, 5000)
	all, records := proofs(t, 33), doubts(t, 33)
	for i := range 32 {
		ok(t, s.Fraud(all[i]), s.Doubt(records[i]))
	}
	ok(t, s.Sync())
	d.Fail(0)
	expect(t, "the 33rd proof", s.Fraud(all[32]), api.ErrFull)
	expect(t, "the 33rd record", s.Doubt(records[32]), api.ErrFull)
	for i := range 32 {
		expect(t, "a proof twice", s.Fraud(all[i]), api.ErrTwice)
		expect(t, "a record twice", s.Doubt(records[i]), api.ErrTwice)
	}
	expect(t, "a proof that is none", s.Fraud(fraud.Proof{A: all[32].B, B: all[32].A}), api.ErrForm)
	expect(t, "a record that isn't signed", s.Doubt(fraud.Challenge{Old: forged(1, 1), Now: records[32].Now}), api.ErrSig)
	expectFrauds(t, s, byId(all[:32]...)...)
	expectDoubts(t, s, records[:32]...)
	expect(t, "Err", s.Err(), api.OK)
	d.Crash(nil)
	s = opened(t, d, config())
	expectFrauds(t, s, byId(all[:32]...)...)
	expectDoubts(t, s, records[:32]...)
	expect(t, "the 33rd proof, behind a crash", s.Fraud(all[32]), api.ErrFull)
	expect(t, "the 33rd record, behind a crash", s.Doubt(records[32]), api.ErrFull)
}

// stuck tells an error by each call that tells one, whatever it is handed.
func stuck(t *testing.T, s *store.Store, want api.Errno) {
	t.Helper()
	for range 2 {
		expect(t, "Err", s.Err(), want)
		expect(t, "Head", s.Head(signed(900)), want)
		expect(t, "Head that isn't signed", s.Head(forged(1)), want)
		expect(t, "Link", s.Link(key(1), key(2)), want)
		expect(t, "Link of a greater one", s.Link(key(9), key(2)), want)
		expect(t, "Fraud", s.Fraud(proof(t, signed(3, 1), signed(3, 2))), want)
		expect(t, "Fraud that is none", s.Fraud(fraud.Proof{}), want)
		expect(t, "Doubt", s.Doubt(doubt(t, signed(3, 1), signed(4, 1))), want)
		expect(t, "Doubt that is none", s.Doubt(fraud.Challenge{}), want)
		expect(t, "Sync", s.Sync(), want)
	}
}

// calls are all calls that write, each of which would go.
func calls(t *testing.T) map[string]func(s *store.Store) api.Errno {
	t.Helper()
	return map[string]func(s *store.Store) api.Errno{
		"Head":  func(s *store.Store) api.Errno { return s.Head(signed(50)) },
		"Link":  func(s *store.Store) api.Errno { return s.Link(key(1), key(2)) },
		"Fraud": func(s *store.Store) api.Errno { return s.Fraud(proof(t, signed(8, 1), signed(8, 2))) },
		"Doubt": func(s *store.Store) api.Errno { return s.Doubt(doubt(t, signed(8, 1), signed(9, 1))) },
		"Sync": func(s *store.Store) api.Errno {
			s.Blame(2, 4)
			return s.Sync()
		},
	}
}

// An error of the disk is told by whichever call comes to it, and stays until the
// store is opened anew.
func TestAnErrorOfTheDiskStays(t *testing.T) {
	for name, call := range calls(t) {
		for after := range 3 {
			s, d := fresh(t, 1000)
			ok(t, s.Head(signed(1)), s.Head(signed(2)), s.Sync())
			d.Fail(0)
			if name == "Sync" {
				d.Fail(after) // at the peer's record, at wal.Sync, within it
			}
			expect(t, name, call(s), api.ErrDown)
			stuck(t, s, api.ErrDown)
			d.Crash(nil)
			stuck(t, s, api.ErrDown)
			s = opened(t, d, config())
			expectHeads(t, s, signed(1), signed(2))
			expectFrauds(t, s)
			expectDoubts(t, s)
			expectPeer(t, s, 2, 0, 0)
			ok(t, call(s), s.Sync())
		}
	}
}

// What can be done without the log is, while an error stays.
func TestPeersWhileAnErrorStays(t *testing.T) {
	s, d := fresh(t, 1000)
	ok(t, s.Head(signed(1)))
	d.Fail(0)
	expect(t, "Sync", s.Sync(), api.ErrDown)
	if s.Blame(1, 3) || !s.Blame(1, 8) {
		t.Error("Blame of 3, and of 8, isn't as score has it")
	}
	expectPeer(t, s, 1, 5, 3)
	s.Tick()
	s.Tick()
	expectPeers(t, "Tick", s.Tick(), 1)
	expectHeads(t, s, signed(1))
	stuck(t, s, api.ErrDown)
}

// full is a store of two heads, and of so many bytes that but 42 are free: in its log
// are both heads, and one link twice. Its disk has 70 blocks, an area 34 of them.
func full(t *testing.T) (*store.Store, *disk.Disk) {
	t.Helper()
	s, d := fresh(t, 70)
	a, b := signed(1), signed(2)
	ok(t, s.Head(a), s.Head(b), s.Link(a.Key, b.Key), s.Link(a.Key, b.Key), s.Sync())
	if free := 34*256 - 2*headFrame - 2*linkFrame; free != 42 {
		t.Fatalf("%d bytes are free", free)
	}
	return s, d
}

// Without room the log is compacted, which is for good at once, and what is written
// stands behind it.
func TestTheLogIsCompacted(t *testing.T) {
	s, d := full(t)
	a, b := signed(1), signed(2)
	ok(t, s.Link(a.Key, b.Key))
	expectRows(t, d, headOf(a), headOf(b), linkOf(a.Key, b.Key))
	ok(t, s.Sync())
	expectRows(t, d, headOf(a), headOf(b), linkOf(a.Key, b.Key), linkOf(a.Key, b.Key))
	expect(t, "Err", s.Err(), api.OK)
	// And so on, as often as there is no room.
	for range 20 {
		ok(t, s.Link(a.Key, b.Key), s.Link(a.Key, b.Key), s.Sync())
		d.Crash(nil)
		expectHeads(t, s, a, b)
		s = opened(t, d, config())
		expectHeads(t, s, a, b)
		expectLinked(t, s, a.Key, b.Key, true)
	}
}

// sizeOf is how many bytes records' frames have.
func sizeOf(rows ...[]byte) int {
	size := 0
	for _, row := range rows {
		size += 8 + len(row)
	}
	return size
}

// Of all that is known there are records, each kind behind the other, in its order.
func TestWhatIsCompacted(t *testing.T) {
	a, b, e, f, g := signed(1, 9), signed(2, 3), signed(2, 4), signed(3), signed(5)
	l, q := proofs(t, 3), []fraud.Challenge{doubt(t, b, f), doubt(t, a, e), doubt(t, a, b)}
	known := [][]byte{
		headOf(a), headOf(b), headOf(e), headOf(f), headOf(g),
		linkOf(a.Key, b.Key), linkOf(a.Key, e.Key), linkOf(a.Key, g.Key), linkOf(b.Key, f.Key), linkOf(b.Key, g.Key), linkOf(e.Key, f.Key),
	}
	for _, p := range byId(l...) {
		known = append(known, fraudOf(p))
	}
	known = append(known, doubtOf(q[0]), doubtOf(q[1]), doubtOf(q[2]))
	known = append(known, peerOf(0, 9, 0), peerOf(3, 5, 3), peerOf(4, 0, 2), peerOf(5, 3, 1))
	area := (sizeOf(known...)+linkFrame+2*peerFrame)/256 + 1

	d := laidOn(t, blank(t, 2+2*area),
		doubtOf(q[0]), peerOf(5, 3, 1), headOf(f), fraudOf(l[2]), headOf(e), linkOf(e.Key, f.Key), headOf(b), headOf(g),
		doubtOf(q[1]), fraudOf(l[0]), peerOf(4, 0, 2), headOf(a), linkOf(b.Key, f.Key), linkOf(a.Key, g.Key),
		linkOf(a.Key, e.Key), linkOf(b.Key, g.Key), peerOf(2, 7, 0), peerOf(2, 0, 0), fraudOf(l[1]), doubtOf(q[2]))
	was := rowsOf(t, d)
	c := config()
	c.Room = 5
	s := opened(t, d, c)
	s.Blame(3, 99)
	s.Blame(0, 9)
	for range area {
		if len(rowsOf(t, d)) != len(was) {
			break
		}
		ok(t, s.Link(a.Key, b.Key))
	}
	expectRows(t, d, known...)
	// Who has changed is written at the next Sync all the same.
	ok(t, s.Sync())
	expectRows(t, d, append(known, linkOf(a.Key, b.Key), peerOf(0, 9, 0), peerOf(3, 5, 3))...)
	s = opened(t, d, c)
	expectHeads(t, s, a, b, e, f, g)
	expectFrauds(t, s, byId(l...)...)
	expectDoubts(t, s, q...)
}

// packed is a store of two heads, a link, and a peer of 5 points, whose log has no
// room for any record more; an area of its disk has 120 blocks.
func packed(t *testing.T) (*store.Store, *disk.Disk) {
	t.Helper()
	c := config()
	c.Limit = 1000
	d := blank(t, 242)
	s := opened(t, d, c)
	a, b := signed(1), signed(2)
	ok(t, s.Head(a), s.Head(b))
	free := 120*256 - 2*headFrame
	for ; free >= linkFrame; free -= linkFrame {
		ok(t, s.Link(a.Key, b.Key))
	}
	for ; free >= peerFrame; free -= peerFrame {
		s.Blame(1, 1)
		ok(t, s.Sync())
	}
	expectLoose(t, d, 0)
	expectPeer(t, s, 1, 5, 0)
	return s, d
}

// compaction is the records of all that is known, and those that are written behind
// them.
type compaction struct{ known, behind [][]byte }

// compactions are what each of calls lays, if the store is packed.
func compactions(t *testing.T) map[string]compaction {
	t.Helper()
	a, b, h := signed(1), signed(2), signed(50)
	p, c := proof(t, signed(8, 1), signed(8, 2)), doubt(t, signed(8, 1), signed(9, 1))
	link, peer := linkOf(a.Key, b.Key), peerOf(1, 5, 0)
	return map[string]compaction{
		"Head":  {[][]byte{headOf(a), headOf(b), headOf(h), link, peer}, [][]byte{headOf(h)}},
		"Link":  {[][]byte{headOf(a), headOf(b), link, peer}, [][]byte{link}},
		"Fraud": {[][]byte{headOf(a), headOf(b), link, fraudOf(p), peer}, [][]byte{fraudOf(p)}},
		"Doubt": {[][]byte{headOf(a), headOf(b), link, doubtOf(c), peer}, [][]byte{doubtOf(c)}},
		"Sync":  {[][]byte{headOf(a), headOf(b), link, peer, peerOf(2, 4, 0)}, [][]byte{peerOf(2, 4, 0)}},
	}
}

// Whatever is written finds room by that, and stands in the log twice: among all that
// is known, and behind it.
func TestEachCallCompacts(t *testing.T) {
	for name, want := range compactions(t) {
		s, d := packed(t)
		ok(t, calls(t)[name](s))
		if name != "Sync" {
			expectRows(t, d, want.known...)
		}
		ok(t, s.Sync())
		expectRows(t, d, append(want.known, want.behind...)...)
		expect(t, name, s.Err(), api.OK)
	}
	// A second peer finds room in what was compacted for the first.
	s, d := packed(t)
	s.Blame(5, 1)
	s.Blame(2, 4)
	ok(t, s.Sync())
	known := append(compactions(t)["Link"].known, peerOf(2, 4, 0), peerOf(5, 1, 0))
	expectRows(t, d, append(known, peerOf(2, 4, 0), peerOf(5, 1, 0))...)
}

// expectOneOf holds the records of a disk's log that are sure against rows, one of
// which they should be; it answers which.
func expectOneOf(t *testing.T, name string, d *disk.Disk, rows ...[][]byte) int {
	t.Helper()
	got := rowsOf(t, d)
	for i, row := range rows {
		if slices.EqualFunc(got, row, bytes.Equal) {
			return i
		}
	}
	t.Errorf("%s: %d records, which are none of those that may be", name, len(got))
	return -1
}

// A disk that fails while the log is compacted is told of, and that stays; what is
// there then is what was, or what was about to be.
func TestAnErrorOfTheDiskWhileCompacting(t *testing.T) {
	for name, want := range compactions(t) {
		for _, front := range [][]byte{nil, bytes.Repeat([]byte{255}, 300), bytes.Repeat([]byte{100}, 300)} {
			var seen [3]int
			for after := 0; ; after++ {
				s, d := packed(t)
				was := rowsOf(t, d)
				d.Fail(after)
				err := calls(t)[name](s)
				if err == api.OK {
					break
				}
				expect(t, name, err, api.ErrDown)
				stuck(t, s, api.ErrDown)
				d.Crash(front)
				if i := expectOneOf(t, name, d, was, want.known, append(want.known, want.behind...)); i >= 0 {
					seen[i]++
				}
				opened(t, d, config())
				if t.Failed() {
					t.Fatalf("%s, failing behind %d calls", name, after)
				}
			}
			if seen[0] < 5 || seen[1] < 1 {
				t.Errorf("%s: %d times what was is there, %d times what was compacted", name, seen[0], seen[1])
			}
		}
	}
}

// blamed is as full, but that so many peers have points that aren't written yet.
func blamed(t *testing.T, n int) (*store.Store, *disk.Disk) {
	t.Helper()
	_, d := full(t)
	c := config()
	c.Peers = 20
	s := opened(t, d, c)
	for peer := range n {
		s.Blame(peer, 1)
	}
	return s, d
}

// If there is no room behind all that is known either, that is told, and stays; what
// was compacted is there for good.
func TestNoRoomBehindWhatIsCompacted(t *testing.T) {
	a, b := signed(1), signed(2)
	for n := range 10 {
		s, d := blamed(t, n)
		known := [][]byte{headOf(a), headOf(b), linkOf(a.Key, b.Key)}
		for peer := range n {
			known = append(known, peerOf(peer, 1, 0))
		}
		want := api.OK
		if sizeOf(known...)+linkFrame > 34*256 {
			want = api.ErrFull
		}
		if (want == api.OK) != (n < 4) {
			t.Fatalf("%d peers: error %d is as it should be", n, want)
		}
		expect(t, "Link", s.Link(a.Key, b.Key), want)
		expectRows(t, d, known...)
		expectLinked(t, s, a.Key, b.Key, true)
		if want != api.OK {
			stuck(t, s, api.ErrFull)
			expectRows(t, d, known...)
		}
	}
}

// If there is no room for all that is known, that is told, and stays, and the log is
// as it was.
func TestNoRoomForWhatIsKnown(t *testing.T) {
	a, b := signed(1), signed(2)
	link := linkOf(a.Key, b.Key)
	for n := 10; n <= 20; n++ {
		s, d := blamed(t, n)
		expect(t, "Link", s.Link(a.Key, b.Key), api.ErrFull)
		stuck(t, s, api.ErrFull)
		expectLoose(t, d, 0)
		d.Crash(nil)
		expectRows(t, d, headOf(a), headOf(b), link, link)
		s = opened(t, d, config())
		expectPeer(t, s, 1, 0, 0)
		ok(t, s.Link(a.Key, b.Key))
	}
}

// What is bigger than an area is told, and isn't there for good; it is known until
// then, as it was known ahead of being written.
func TestWhatIsBiggerThanAnArea(t *testing.T) {
	for name, call := range calls(t) {
		if name == "Link" || name == "Sync" {
			continue
		}
		s, d := fresh(t, 4)
		s.Blame(0, 1)
		ok(t, s.Sync())
		expect(t, name, call(s), api.ErrFull)
		stuck(t, s, api.ErrFull)
		if len(s.Keys())+len(s.Frauds())+len(s.Doubts()) != 1 {
			t.Errorf("%s: it isn't known", name)
		}
		expectRows(t, d, peerOf(0, 1, 0))
		s = opened(t, d, config())
		expectNothing(t, s)
		expectPeer(t, s, 0, 1, 0)
	}
}

// A head that is given up is in no record of what is known.
func TestWhatIsGivenUpIsCompactedAway(t *testing.T) {
	c := config()
	c.Room = 2
	d := blank(t, 2+2*60)
	s := opened(t, d, c)
	ok(t, s.Head(signed(1)))
	for size := uint64(2); size < 40; size++ {
		ok(t, s.Head(signed(size)), s.Link(key(size-1), key(size)), s.Sync())
		d.Crash(nil)
		for _, know := range []*store.Store{s, opened(t, d, c)} {
			expectHeads(t, know, signed(size-1), signed(size))
			expectLinked(t, know, key(size-1), key(size), true)
			expectLinked(t, know, key(size-2), key(size-1), false)
		}
	}
}

// P16.3

func blame(t *testing.T, s *store.Store, peer, points int, want bool) {
	t.Helper()
	if got := s.Blame(peer, points); got != want {
		t.Errorf("Blame of %d of %d: %v", peer, points, got)
	}
}

// Blame and Tick are score's, and write nothing.
func TestBlameAndTick(t *testing.T) {
	s, d := fresh(t, 1000)
	d.Fail(0)
	blame(t, s, 0, 9, false)
	blame(t, s, 1, 12, true)
	blame(t, s, 1, 12, false)
	blame(t, s, 2, 10, true)
	blame(t, s, 3, 0, false)
	blame(t, s, 3, -5, false)
	for _, peer := range []int{-1, 6, 64, math.MinInt, math.MaxInt} {
		blame(t, s, peer, 5, false)
		if p, ok := s.Peer(peer); ok || p != (score.Peer{}) {
			t.Errorf("peer %d, which there isn't: %v, %v", peer, p, ok)
		}
	}
	expectPeer(t, s, 0, 9, 0)
	expectPeer(t, s, 1, 5, 3)
	expectPeer(t, s, 3, 0, 0)
	expectPeers(t, "Peers", s.Peers(), 0, 3, 4, 5)
	expectPeers(t, "Tick", s.Tick())
	blame(t, s, 4, math.MaxInt, true)
	expectPeers(t, "Tick", s.Tick())
	expectPeers(t, "Tick", s.Tick(), 1, 2)
	expectPeer(t, s, 4, 5, 1)
	expectPeers(t, "Peers", s.Peers(), 0, 1, 2, 3, 5)
	expectPeers(t, "Tick", s.Tick(), 4)
	expectPeers(t, "Tick", s.Tick())
	expect(t, "Err", s.Err(), api.OK)
	expectLoose(t, d, 0)
}

// Those who have changed are written by rising numbers, behind what was written
// already, as they are then, and once.
func TestSyncWritesWhoHasChanged(t *testing.T) {
	s, d := fresh(t, 1000)
	blame(t, s, 5, 3, false)
	blame(t, s, 2, 12, true)
	ok(t, s.Head(signed(1)))
	blame(t, s, 0, 4, false)
	blame(t, s, 0, 4, false)
	blame(t, s, 3, 0, false)
	blame(t, s, 9, 4, false)
	s.Tick()
	ok(t, s.Head(signed(2)), s.Sync())
	want := [][]byte{headOf(signed(1)), headOf(signed(2)), peerOf(0, 8, 0), peerOf(2, 5, 2), peerOf(5, 3, 0)}
	expectRows(t, d, want...)
	// Nobody has changed since.
	blame(t, s, 2, 5, false) // it is kept away
	blame(t, s, 4, -5, false)
	d.Fail(0)
	ok(t, s.Sync(), s.Sync())
	d.Fail(-1)
	// Of a tick just those who are kept away are others.
	s.Tick()
	ok(t, s.Sync())
	want = append(want, peerOf(2, 5, 1))
	expectRows(t, d, want...)
	expectPeers(t, "Tick", s.Tick(), 2)
	s.Tick()
	blame(t, s, 5, 1, false)
	ok(t, s.Sync())
	want = append(want, peerOf(2, 5, 0), peerOf(5, 4, 0))
	expectRows(t, d, want...)
	s.Tick()
	ok(t, s.Link(key(1), key(2)), s.Sync())
	expectRows(t, d, append(want, linkOf(key(1), key(2)))...)
	d.Crash(nil)
	s = opened(t, d, config())
	for peer, points := range []int{8, 0, 5, 0, 0, 4} {
		expectPeer(t, s, peer, points, 0)
	}
}

// One that was another between is written, though it is as it was again.
func TestSyncWritesWhoIsAsItWas(t *testing.T) {
	c := config()
	c.Limit, c.Hold = 1, 1
	d := blank(t, 1000)
	s := opened(t, d, c)
	blame(t, s, 3, 1, true)
	expectPeer(t, s, 3, 0, 1)
	expectPeers(t, "Tick", s.Tick(), 3)
	expectPeer(t, s, 3, 0, 0)
	ok(t, s.Sync())
	expectRows(t, d, peerOf(3, 0, 0))
}

// Each peer, and the most points and ticks there are.
func TestPeersAtTheEnds(t *testing.T) {
	c := store.Config{Public: public, Room: 1, Peers: 64, Limit: 1000, Hold: 1000}
	d := blank(t, 1000)
	s := opened(t, d, c)
	var want [][]byte
	for peer := 63; peer >= 0; peer-- {
		blame(t, s, peer, 936+peer, false)
		want = append([][]byte{peerOf(peer, 936+peer, 0)}, want...)
	}
	ok(t, s.Sync())
	expectRows(t, d, want...)
	for peer := range 64 {
		blame(t, s, peer, 999, true)
		want = append(want, peerOf(peer, 500, 1000))
	}
	ok(t, s.Sync())
	expectRows(t, d, want...)
	d.Crash(nil)
	s = opened(t, d, c)
	for peer := range 64 {
		expectPeer(t, s, peer, 500, 1000)
	}
	expectPeers(t, "Peers", s.Peers())
}

// Who has changed isn't known behind a crash until it is synced.
func TestPeersBehindACrash(t *testing.T) {
	s, d := fresh(t, 1000)
	blame(t, s, 1, 3, false)
	ok(t, s.Sync())
	blame(t, s, 1, 3, false)
	blame(t, s, 2, 10, true)
	ok(t, s.Head(signed(1)))
	d.Crash(bytes.Repeat([]byte{255}, 99))
	s = opened(t, d, config())
	expectPeer(t, s, 1, 3, 0)
	expectPeer(t, s, 2, 0, 0)
}

// The error of a peer's record is told ahead of that of the log's Sync, and behind
// the one that stays.
func TestSyncTellsTheFirstError(t *testing.T) {
	s, d := fresh(t, 4) // an area of 256 bytes: 18 peers' frames
	for i := range 18 {
		blame(t, s, i%6, 1, false)
		ok(t, s.Sync())
	}
	d.Fail(100)
	blame(t, s, 0, 1, false)
	ok(t, s.Sync())
	expectRows(t, d, peerOf(0, 4, 0), peerOf(1, 3, 0), peerOf(2, 3, 0), peerOf(3, 3, 0), peerOf(4, 3, 0), peerOf(5, 3, 0), peerOf(0, 4, 0))

	c := config()
	c.Peers = 20
	d = blank(t, 4)
	s = opened(t, d, c)
	for peer := range 20 {
		blame(t, s, peer, 1, false)
	}
	expect(t, "Sync of 20 peers", s.Sync(), api.ErrFull)
	stuck(t, s, api.ErrFull)
	kill(t, d)
	stuck(t, s, api.ErrFull)
	expectPeer(t, s, 19, 1, 0)
}

// What there is nothing of to write, or to sync, tells no error of the disk.
func TestSyncOfNothing(t *testing.T) {
	s, d := fresh(t, 1000)
	kill(t, d)
	expect(t, "Sync of nothing", s.Sync(), api.OK)
	expect(t, "Err", s.Err(), api.OK)
	expect(t, "Head", s.Head(signed(1)), api.ErrDown)
	expect(t, "Sync", s.Sync(), api.ErrDown)
}

// Proofs are told by their names, however they came; records as they came.
func TestFraudsAndDoubtsInOrder(t *testing.T) {
	all, records := proofs(t, 12), doubts(t, 12)
	for seed := range int64(6) {
		r := rand.New(rand.NewSource(seed))
		s, d := fresh(t, 3000)
		var known []fraud.Proof
		var told []fraud.Challenge
		for _, i := range r.Perm(len(all)) {
			ok(t, s.Fraud(all[i]), s.Doubt(records[i]))
			known, told = append(known, all[i]), append(told, records[i])
			expectFrauds(t, s, byId(known...)...)
			expectDoubts(t, s, told...)
		}
		ok(t, s.Sync())
		d.Crash(nil)
		s = opened(t, d, config())
		expectFrauds(t, s, byId(known...)...)
		expectDoubts(t, s, told...)
	}
}

// What is told of heads is as heads has it.
func TestWhatIsToldOfHeads(t *testing.T) {
	c := config()
	c.Room = 64
	s := opened(t, blank(t, 2000), c)
	table, _ := heads.New(64)
	r := rand.New(rand.NewSource(7))
	var all []api.Key
	for range 25 {
		h := signed(uint64(r.Intn(6)), byte(r.Intn(4)))
		_, _, want := table.Put(h)
		expect(t, "Head", s.Head(h), want)
		all = append(all, h.Key, key(h.Key.Size, 9))
		old, now := all[r.Intn(len(all))], all[r.Intn(len(all))]
		expect(t, "Link", s.Link(old, now), table.Link(old, now))
		expectSameHeads(t, s, table, all)
	}
}

// expectSameHeads holds what is told of heads of some keys against a table of them.
func expectSameHeads(t *testing.T, s *store.Store, table *heads.Table, all []api.Key) {
	t.Helper()
	if got, want := s.Keys(), table.Keys(); !slices.Equal(got, want) {
		t.Errorf("Keys: %v, want %v", got, want)
	}
	got, is := s.Latest()
	if want, ok := table.Latest(); got != want || is != ok {
		t.Errorf("Latest: %v, %v, want %v, %v", got.Key, is, want.Key, ok)
	}
	for _, k := range all {
		got, is := s.Get(k)
		if want, ok := table.Get(k); got != want || is != ok {
			t.Errorf("Get of %v: %v, want %v", k, is, ok)
		}
		got, is = s.Rival(k)
		if want, ok := table.Rival(k); got != want || is != ok {
			t.Errorf("Rival of %v: %v, %v, want %v, %v", k, got.Key, is, want.Key, ok)
		}
		for _, now := range all {
			expectLinked(t, s, k, now, table.Linked(k, now))
		}
	}
}

func TestNilStore(t *testing.T) {
	var s *store.Store
	expectNothing(t, s)
	stuck(t, s, api.ErrArg)
	for _, peer := range []int{0, 1, -1, 63, math.MaxInt} {
		blame(t, s, peer, 100, false)
		if p, ok := s.Peer(peer); ok || p != (score.Peer{}) {
			t.Errorf("peer %d of nil: %v, %v", peer, p, ok)
		}
	}
	expectPeers(t, "Tick", s.Tick())
	expectPeers(t, "Peers", s.Peers())
}

// Rule 1: a Store that Open didn't make answers something as well.
func TestStoreThatOpenDidntMake(t *testing.T) {
	var s store.Store
	s.Head(signed(1))
	s.Fraud(proof(t, signed(3, 1), signed(3, 2)))
	s.Doubt(doubt(t, signed(3, 1), signed(4, 1)))
	s.Blame(0, 1)
	s.Tick()
	s.Latest()
	s.Rival(key(1))
	s.Peer(0)
	s.Peers()
	s.Keys()
	s.Frauds()
	s.Doubts()
	s.Link(key(1), key(2))
	s.Sync()
	s.Err()
	s = store.Store{}
	s.Sync()
}

// Rule 3: what is answered is new memory.
func TestAnswersAreNewMemory(t *testing.T) {
	s, _ := fresh(t, 2000)
	l, q := byId(proofs(t, 3)...), doubts(t, 3)
	ok(t, s.Head(signed(1)), s.Head(signed(2)))
	for i := range l {
		ok(t, s.Fraud(l[i]), s.Doubt(q[i]))
	}
	blame(t, s, 1, 10, true)
	for range 2 {
		expectHeads(t, s, signed(1), signed(2))
		expectFrauds(t, s, l...)
		expectDoubts(t, s, q...)
		expectPeers(t, "Peers", s.Peers(), 0, 2, 3, 4, 5)
		clear(s.Keys())
		clear(s.Frauds())
		clear(s.Doubts())
		clear(s.Peers())
		_ = append(s.Doubts()[:1], doubt(t, signed(5), signed(6)))
	}
}

// Rule 4: two stores know what they were told each.
func TestStoresAreApart(t *testing.T) {
	a, one := fresh(t, 1000)
	b, other := fresh(t, 1000)
	l, q := proofs(t, 2), doubts(t, 2)
	ok(t, a.Head(signed(1)), b.Head(signed(2)), a.Fraud(l[0]), b.Fraud(l[1]), a.Doubt(q[0]), b.Doubt(q[1]))
	blame(t, a, 1, 3, false)
	kill(t, one)
	expect(t, "Sync", a.Sync(), api.ErrDown)
	expect(t, "Sync of the other one", b.Sync(), api.OK)
	expectHeads(t, a, signed(1))
	expectFrauds(t, a, l[0])
	expectDoubts(t, a, q[0])
	expectHeads(t, b, signed(2))
	expectFrauds(t, b, l[1])
	expectDoubts(t, b, q[1])
	expectPeer(t, b, 1, 0, 0)
	expectRows(t, other, headOf(signed(2)), fraudOf(l[1]), doubtOf(q[1]))
}

// P16.4

// A crash in each place of a Sync, and each front of what is loose there: all is
// known that was synced, and, beside that, all of what wasn't, or nothing.
func TestCrashWithinASync(t *testing.T) {
	p, c := proof(t, signed(8, 1), signed(8, 2)), doubt(t, signed(8, 1), signed(9, 1))
	for after := range 5 {
		arrived := 0
		for size := range 256 {
			s, d := fresh(t, 1000)
			ok(t, s.Head(signed(1)), s.Head(signed(2)))
			blame(t, s, 1, 3, false)
			ok(t, s.Sync(), s.Fraud(p), s.Link(key(1), key(2)), s.Doubt(c))
			blame(t, s, 1, 3, false)
			d.Fail(after)
			if err := s.Sync(); (err == api.OK) != (after > 3) {
				t.Fatalf("Sync, failing behind %d calls: error %d", after, err)
			}
			front := bytes.Repeat([]byte{255}, d.Loose())
			if len(front) > 0 {
				front[0], front[len(front)-1] = byte(size/2), byte(size)
			}
			d.Crash(front)
			s = opened(t, d, config())
			expectHeads(t, s, signed(1), signed(2))
			if len(s.Frauds()) == 0 {
				expectDoubts(t, s)
				expectLinked(t, s, key(1), key(2), false)
				expectPeer(t, s, 1, 3, 0)
			} else {
				arrived++
				expectFrauds(t, s, p)
				expectDoubts(t, s, c)
				expectLinked(t, s, key(1), key(2), true)
				expectPeer(t, s, 1, 6, 0)
			}
			if t.Failed() {
				t.Fatalf("failing behind %d calls, front %d", after, size)
			}
		}
		if all := after > 3; all != (arrived == 256) || after < 3 && arrived > 0 {
			t.Errorf("failing behind %d calls: %d times all is known", after, arrived)
		}
	}
}

// A proof that was synced is there behind whatever follows.
func TestAProofIsNeverLost(t *testing.T) {
	c := config()
	c.Room = 2
	d := blank(t, 2+2*150)
	s := opened(t, d, c)
	p := proof(t, signed(8, 1), signed(8, 2))
	ok(t, s.Fraud(p), s.Sync())
	r := rand.New(rand.NewSource(3))
	for size := uint64(1); size < 60; size++ {
		d.Fail(r.Intn(200))
		s.Head(signed(size))
		s.Link(key(size-1), key(size))
		s.Blame(r.Intn(6), r.Intn(9))
		s.Tick()
		s.Sync()
		front := make([]byte, r.Intn(50))
		r.Read(front)
		d.Crash(front)
		s = opened(t, d, c)
		expectFrauds(t, s, p)
		expect(t, "Fraud", s.Fraud(p), api.ErrTwice)
	}
}

// To open again is to know the same; to open with less room, and so on, too, as far
// as there is room.
func TestOpenAgain(t *testing.T) {
	s, d := fresh(t, 2000)
	a, b, e := signed(1), signed(2, 1), signed(2, 2)
	p, c := proof(t, b, e), doubt(t, a, e)
	ok(t, s.Head(e), s.Head(b), s.Head(a), s.Link(a.Key, b.Key), s.Fraud(p), s.Doubt(c))
	blame(t, s, 4, 10, true)
	blame(t, s, 5, 7, false)
	ok(t, s.Sync())
	for range 3 {
		s = opened(t, d, config())
		expectHeads(t, s, a, b, e)
		expectLinked(t, s, a.Key, b.Key, true)
		expectFrauds(t, s, p)
		expectDoubts(t, s, c)
		expectPeer(t, s, 4, 5, 3)
		expectPeer(t, s, 5, 7, 0)
		d.Crash(nil)
	}
	less := store.Config{Public: public, Room: 1, Peers: 5, Limit: 6, Hold: 3}
	s = opened(t, d, less)
	expectHeads(t, s, e)
	expectFrauds(t, s, p)
	expectDoubts(t, s, c)
	expectPeer(t, s, 4, 5, 3)
	less.Limit = 5
	expectPeer(t, opened(t, d, less), 4, 0, 0)
}

// twin is a store as the document's words have it, on a disk of its own, on which the
// same is done as on the other one.
type twin struct {
	c       store.Config
	d       *disk.Disk
	log     *wal.Log
	held    *heads.Table
	peers   *score.Table
	frauds  []fraud.Proof
	doubts  []fraud.Challenge
	changed [64]bool
	err     api.Errno
}

// open opens it anew.
func (w *twin) open(t *testing.T) {
	t.Helper()
	*w = twin{c: w.c, d: w.d}
	var err api.Errno
	if w.log, err = wal.Open(w.d); err != api.OK {
		t.Fatalf("the twin's log: error %d", err)
	}
	w.held, _ = heads.New(w.c.Room)
	w.peers, _ = score.New(w.c.Peers, w.c.Limit, w.c.Hold)
	for _, b := range w.log.Records() {
		num := func(at, size int) uint64 {
			return binary.BigEndian.Uint64(append(make([]byte, 8-size), b[at:at+size]...))
		}
		switch b[0] {
		case 1:
			h, _ := head.Get(b[1:])
			w.held.Put(h)
		case 2:
			old, now := api.Key{Size: num(1, 8)}, api.Key{Size: num(41, 8)}
			copy(old.Root[:], b[9:41])
			copy(now.Root[:], b[49:81])
			w.held.Link(old, now)
		case 3:
			p, _ := fraud.Get(b[1:])
			w.addFraud(p)
		case 4:
			c, _ := fraud.GetDoubt(b[1:])
			w.addDoubt(c)
		case 5:
			w.peers.Set(int(b[1]), score.Peer{Points: int(num(2, 2)), Left: int(num(4, 2))})
		}
	}
}

func (w *twin) addFraud(p fraud.Proof) api.Errno {
	for _, o := range w.frauds {
		if o.A.Key == p.A.Key && o.B.Key == p.B.Key {
			return api.ErrTwice
		}
	}
	if len(w.frauds) == 32 {
		return api.ErrFull
	}
	w.frauds = byId(append(slices.Clone(w.frauds), p)...)
	return api.OK
}

func (w *twin) addDoubt(c fraud.Challenge) api.Errno {
	for _, o := range w.doubts {
		if o.Old.Key == c.Old.Key && o.Now.Key == c.Now.Key {
			return api.ErrTwice
		}
	}
	if len(w.doubts) == 32 {
		return api.ErrFull
	}
	w.doubts = append(slices.Clone(w.doubts), c)
	return api.OK
}

// known is the records of all that is known.
func (w *twin) known() [][]byte {
	var rows [][]byte
	for _, k := range w.held.Keys() {
		h, _ := w.held.Get(k)
		rows = append(rows, headOf(h))
	}
	for _, old := range w.held.Keys() {
		for _, now := range w.held.Keys() {
			if w.held.Linked(old, now) {
				rows = append(rows, linkOf(old, now))
			}
		}
	}
	for _, p := range w.frauds {
		rows = append(rows, fraudOf(p))
	}
	for _, c := range w.doubts {
		rows = append(rows, doubtOf(c))
	}
	for peer := range w.c.Peers {
		if p, _ := w.peers.Peer(peer); p.Points > 0 || p.Left > 0 {
			rows = append(rows, peerOf(peer, p.Points, p.Left))
		}
	}
	return rows
}

func (w *twin) write(b []byte) api.Errno {
	err := w.log.Append(b)
	if err == api.ErrFull {
		w.log.Compact(w.known())
		err = w.log.Append(b)
	}
	w.err = err
	return err
}

// tell does what lets a thing be known, which then is written as a record.
func (w *twin) tell(row []byte, steps ...func() api.Errno) api.Errno {
	if w.err != api.OK {
		return w.err
	}
	for _, step := range steps {
		if err := step(); err != api.OK {
			return err
		}
	}
	return w.write(row)
}

func (w *twin) head(h head.Head) api.Errno {
	return w.tell(headOf(h),
		func() api.Errno { return head.Verify(w.c.Public, h) },
		func() api.Errno { _, _, err := w.held.Put(h); return err })
}

func (w *twin) link(old, now api.Key) api.Errno {
	return w.tell(linkOf(old, now), func() api.Errno { return w.held.Link(old, now) })
}

func (w *twin) fraud(p fraud.Proof) api.Errno {
	return w.tell(fraudOf(p),
		func() api.Errno { return fraud.Verify(w.c.Public, p) },
		func() api.Errno { return w.addFraud(p) })
}

func (w *twin) doubt(c fraud.Challenge) api.Errno {
	return w.tell(doubtOf(c),
		func() api.Errno { return fraud.Check(w.c.Public, c) },
		func() api.Errno { return w.addDoubt(c) })
}

// behave lets peers behave, and tells which of them are others then.
func (w *twin) behave(act func()) {
	var was [64]score.Peer
	for peer := range 64 {
		was[peer], _ = w.peers.Peer(peer)
	}
	act()
	for peer := range 64 {
		if p, _ := w.peers.Peer(peer); p != was[peer] {
			w.changed[peer] = true
		}
	}
}

func (w *twin) sync() api.Errno {
	if w.err != api.OK {
		return w.err
	}
	for peer := range 64 {
		if p, _ := w.peers.Peer(peer); w.changed[peer] && w.write(peerOf(peer, p.Points, p.Left)) != api.OK {
			return w.err
		}
	}
	w.changed = [64]bool{}
	w.err = w.log.Sync()
	return w.err
}

// told is all that may be told, well formed or not, signed or not.
type told struct {
	heads  []head.Head
	frauds []fraud.Proof
	doubts []fraud.Challenge
}

// pool is what may be told of few sizes and roots; of proofs and records of doubt a
// few.
func pool(r *rand.Rand) told {
	var l, some told
	for size := range uint64(5) {
		for root := range byte(3) {
			l.heads = append(l.heads, by(counted(), int(size+uint64(root))%8, key(size, root)))
		}
		l.heads = append(l.heads, by(counted(), 7, key(size, 1)), forged(size, 2))
	}
	for _, a := range l.heads {
		for _, b := range l.heads {
			if a.Key.Size == b.Key.Size {
				l.frauds = append(l.frauds, fraud.Proof{A: a, B: b})
			}
			if a.Key.Size < b.Key.Size || len(l.doubts)%9 == 0 {
				l.doubts = append(l.doubts, fraud.Challenge{Old: a, Now: b})
			}
		}
	}
	some.heads = l.heads
	for range 8 {
		some.frauds = append(some.frauds, l.frauds[r.Intn(len(l.frauds))])
		some.doubts = append(some.doubts, l.doubts[r.Intn(len(l.doubts))])
	}
	return some
}

// act does one thing with a store and its twin, and holds their answers against each
// other; it answers the store, which a crash opens anew.
func act(t *testing.T, r *rand.Rand, s *store.Store, d *disk.Disk, w *twin, l told) *store.Store {
	t.Helper()
	x := r.Intn(40)
	if w.err != api.OK && x%3 == 0 {
		x = 39
	}
	switch {
	case x < 10:
		h := l.heads[r.Intn(len(l.heads))]
		expect(t, "Head", s.Head(h), w.head(h))
	case x < 20:
		// Often more than once, so that the log has no room soon.
		all := append(w.held.Keys(), l.heads[r.Intn(len(l.heads))].Key)
		old, now := all[r.Intn(len(all))], all[r.Intn(len(all))]
		for range 1 + r.Intn(2)*r.Intn(60) {
			expect(t, "Link", s.Link(old, now), w.link(old, now))
		}
	case x < 22:
		p := l.frauds[r.Intn(len(l.frauds))]
		expect(t, "Fraud", s.Fraud(p), w.fraud(p))
	case x < 24:
		c := l.doubts[r.Intn(len(l.doubts))]
		expect(t, "Doubt", s.Doubt(c), w.doubt(c))
	case x < 28:
		peer, points := r.Intn(w.c.Peers+2)-1, r.Intn(w.c.Limit+3)-1
		w.behave(func() { blame(t, s, peer, points, w.peers.Blame(peer, points)) })
	case x < 31:
		w.behave(func() { expectPeers(t, "Tick", s.Tick(), w.peers.Tick()...) })
	case x < 36:
		expect(t, "Sync", s.Sync(), w.sync())
	case x < 37:
		after := r.Intn(300)
		d.Fail(after)
		w.d.Fail(after)
	default:
		front := make([]byte, r.Intn(60))
		for k := range front {
			front[k] = []byte{0, 255, 255, byte(r.Intn(256))}[r.Intn(4)]
		}
		d.Crash(front)
		w.d.Crash(front)
		w.open(t)
		s = opened(t, d, w.c)
	}
	return s
}

// expectSame holds all that a store tells against its twin, and what both wrote.
func expectSame(t *testing.T, s *store.Store, d *disk.Disk, w *twin, l told) {
	t.Helper()
	var all []api.Key
	for _, h := range l.heads {
		all = append(all, h.Key)
	}
	expectSameHeads(t, s, w.held, all)
	expectFrauds(t, s, w.frauds...)
	expectDoubts(t, s, w.doubts...)
	for peer := range w.c.Peers {
		p, _ := w.peers.Peer(peer)
		expectPeer(t, s, peer, p.Points, p.Left)
	}
	expectPeers(t, "Peers", s.Peers(), w.peers.Open()...)
	expect(t, "Err", s.Err(), w.err)
	if d.Dead() != w.d.Dead() || d.Loose() != w.d.Loose() {
		t.Errorf("dead: %v, %d writes are loose, want %v, %d", d.Dead(), d.Loose(), w.d.Dead(), w.d.Loose())
	}
	for i := range d.Len() {
		got, err := d.Read(i)
		want, wantErr := w.d.Read(i)
		if err != wantErr || !bytes.Equal(got, want) {
			t.Fatalf("block %d: error %d, want %d, or other bytes", i, err, wantErr)
		}
	}
}

func TestAllAgainstATwin(t *testing.T) {
	for seed := range int64(100) {
		r := rand.New(rand.NewSource(seed))
		c := store.Config{Public: public, Room: 1 + r.Intn(5), Peers: 1 + r.Intn(5), Limit: 1 + r.Intn(9), Hold: 1 + r.Intn(3)}
		n := []int{4, 90, 180, 300, 301, 500}[r.Intn(6)]
		d, w, l := blank(t, n), &twin{c: c, d: blank(t, n)}, pool(r)
		w.open(t)
		s := opened(t, d, c)
		for range 120 {
			s = act(t, r, s, d, w, l)
			expectSame(t, s, d, w, l)
			if t.Failed() {
				t.Fatalf("seed %d", seed)
			}
		}
	}
}
