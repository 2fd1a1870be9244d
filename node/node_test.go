package node_test

import (
	"bytes"
	"math"
	"math/rand"
	"slices"
	"strconv"
	"testing"

	"assayer/api"
	"assayer/chain"
	"assayer/dice"
	"assayer/digest"
	"assayer/disk"
	"assayer/fetch"
	"assayer/fraud"
	"assayer/gossip"
	"assayer/head"
	"assayer/heads"
	"assayer/keys"
	"assayer/msg"
	"assayer/node"
	"assayer/score"
	"assayer/store"
	"assayer/tree"
	"assayer/wal"
)

// counted is the hash whose bytes are 0 to 31: the log's seed.
func counted() api.Hash {
	var h api.Hash
	for i := range h {
		h[i] = byte(i)
	}
	return h
}

// What takes long is made once.
var (
	public = keys.Public(counted())
	made   = map[signing]head.Head{}
)

type signing struct {
	seed api.Hash
	leaf int
	key  api.Key
}

// config is auditor 0 of five, who tells all the others, and asks at the ticks 1, 2,
// 4, 8 and 12.
func config() node.Config {
	return node.Config{Public: public, Room: 16, Many: 5, Fan: 4, Seed: 7, Limit: 10, Hold: 3, Base: 1, Most: 4, Budget: 5}
}

// key is one of a size, and a root that begins with some bytes.
func key(size uint64, root ...byte) api.Key {
	k := api.Key{Size: size}
	copy(k.Root[:], root)
	return k
}

// by is a head that a seed signs with a leaf.
func by(seed api.Hash, leaf int, k api.Key) head.Head {
	what := signing{seed, leaf, k}
	if h, ok := made[what]; ok {
		return h
	}
	s, _ := keys.NewSigner(seed, leaf)
	h, err := head.Sign(s, k)
	if err != api.OK {
		panic(err)
	}
	made[what] = h
	return h
}

// signed is a head that the log signs.
func signed(size uint64, root ...byte) head.Head { return by(counted(), 0, key(size, root...)) }

// again is a head of the same key, signed with another leaf.
func again(h head.Head) head.Head { return by(counted(), 5, h.Key) }

// forged is a head that somebody else signs.
func forged(size uint64, root ...byte) head.Head { return by(api.Hash{9}, 1, key(size, root...)) }

// entries are the first of a log's.
func entries(n int) [][]byte {
	var l [][]byte
	for i := range n {
		l = append(l, []byte{byte(i)})
	}
	return l
}

// grown is the head of a log's first entries.
func grown(n int) head.Head {
	root := tree.Root(entries(n))
	return signed(uint64(n), root[:]...)
}

// keysOf is the keys of heads.
func keysOf(l ...head.Head) []api.Key {
	var out []api.Key
	for _, h := range l {
		out = append(out, h.Key)
	}
	return out
}

// wish is the proof that one head goes on in another one.
func wish(old, now head.Head) fetch.Want { return fetch.Want{Old: old.Key, Now: now.Key} }

// proof is that of two heads, signed or not.
func proof(a, b head.Head) fraud.Proof {
	p, err := fraud.Make(a, b)
	if err != api.OK {
		panic(err)
	}
	return p
}

// doubt is the record of two heads, signed or not.
func doubt(old, now head.Head) fraud.Challenge {
	c, err := fraud.Doubt(old, now)
	if err != api.OK {
		panic(err)
	}
	return c
}

// proofs are so many, each of a size of its own, by their names, rising.
func proofs(n int) []fraud.Proof {
	var l []fraud.Proof
	for i := range n {
		l = append(l, proof(signed(uint64(100+i), 1), signed(uint64(100+i), 2)))
	}
	return ordered(l...)
}

// ordered are proofs by their names.
func ordered(l ...fraud.Proof) []fraud.Proof {
	slices.SortFunc(l, func(a, b fraud.Proof) int {
		one, other := fraud.Id(a), fraud.Id(b)
		return bytes.Compare(one[:], other[:])
	})
	return l
}

// names are those of proofs.
func names(l ...fraud.Proof) []api.Hash {
	var out []api.Hash
	for _, p := range l {
		out = append(out, fraud.Id(p))
	}
	return out
}

// rising are so many heads, of the sizes from 1 on.
func rising(n int) []head.Head {
	var l []head.Head
	for i := range n {
		l = append(l, signed(uint64(1+i), 1))
	}
	return l
}

// put is a message's bytes.
func put(m msg.Msg) []byte {
	b, err := msg.Put(m)
	if err != api.OK {
		panic(err)
	}
	return b
}

// tells, pulls and the others are messages.
func tells(k []api.Key, ids []api.Hash) msg.Msg {
	return msg.Msg{Kind: msg.Tells, Digest: digest.Digest{Keys: k, Frauds: ids}}
}

func pulls(k ...api.Key) msg.Msg { return msg.Msg{Kind: msg.Pulls, Keys: k} }

func gives(h head.Head) msg.Msg { return msg.Msg{Kind: msg.Gives, Head: h} }

func proves(p fraud.Proof) msg.Msg { return msg.Msg{Kind: msg.Proves, Proof: p} }

func asks(w fetch.Want) msg.Msg { return msg.Msg{Kind: msg.Asks, Want: w} }

func goes(w fetch.Want, path ...api.Hash) msg.Msg {
	return msg.Msg{Kind: msg.Goes, Want: w, Path: path}
}

// proven is what the log says of its first m and n entries.
func proven(m, n int) msg.Msg {
	path, err := chain.Proof(entries(n), m)
	if err != api.OK {
		panic(err)
	}
	return goes(wish(grown(m), grown(n)), path...)
}

// outs is a message for each of some.
func outs(m msg.Msg, to ...int) []node.Out {
	var l []node.Out
	for _, who := range to {
		l = append(l, node.Out{To: who, Data: put(m)})
	}
	return l
}

// many is a message for one for each of some.
func many[T any](to int, what func(T) msg.Msg, l ...T) []node.Out {
	var all []node.Out
	for _, x := range l {
		all = append(all, outs(what(x), to)...)
	}
	return all
}

// blank is a disk of n blocks.
func blank(t *testing.T, n int) *disk.Disk {
	t.Helper()
	d, err := disk.New(n)
	if err != api.OK {
		t.Fatalf("a disk of %d blocks: error %d", n, err)
	}
	return d
}

// kill lets a disk be dead.
func kill(t *testing.T, d *disk.Disk) {
	t.Helper()
	d.Fail(0)
	if err := d.Sync(); err != api.ErrDown {
		t.Fatalf("Sync: error %d, want that of a dead disk", err)
	}
}

// stored is a disk on which an auditor's store knows some things.
func stored(t *testing.T, c node.Config, fill func(s *store.Store)) *disk.Disk {
	t.Helper()
	d := blank(t, 10000)
	s, err := store.Open(d, store.Config{Public: c.Public, Room: c.Room, Peers: c.Many, Limit: c.Limit, Hold: c.Hold})
	if err != api.OK {
		t.Fatalf("a store: error %d", err)
	}
	fill(s)
	if err := s.Sync(); err != api.OK {
		t.Fatalf("a store: error %d", err)
	}
	return d
}

// opened is an auditor on a disk, which may be.
func opened(t *testing.T, d *disk.Disk, c node.Config) *node.Node {
	t.Helper()
	n, err := node.Open(d, c)
	if err != api.OK || n == nil {
		t.Fatalf("Open: error %d", err)
	}
	return n
}

// knowing is an auditor who knows some things, and its disk.
func knowing(t *testing.T, c node.Config, fill func(s *store.Store)) (*node.Node, *disk.Disk) {
	t.Helper()
	d := stored(t, c, fill)
	return opened(t, d, c), d
}

// holding is an auditor who holds heads, and its disk.
func holding(t *testing.T, c node.Config, l ...head.Head) (*node.Node, *disk.Disk) {
	t.Helper()
	return knowing(t, c, func(s *store.Store) { hold(t, s, l...) })
}

// hold lets a store know heads.
func hold(t *testing.T, s *store.Store, l ...head.Head) {
	t.Helper()
	for _, h := range l {
		if err := s.Head(h); err != api.OK {
			t.Fatalf("Head of %v: error %d", h.Key, err)
		}
	}
}

// prove lets a store know proofs.
func prove(t *testing.T, s *store.Store, l ...fraud.Proof) {
	t.Helper()
	for _, p := range l {
		if err := s.Fraud(p); err != api.OK {
			t.Fatalf("Fraud: error %d", err)
		}
	}
}

// record lets a store know records of doubt.
func record(t *testing.T, s *store.Store, l ...fraud.Challenge) {
	t.Helper()
	for _, c := range l {
		if err := s.Doubt(c); err != api.OK {
			t.Fatalf("Doubt: error %d", err)
		}
	}
}

// fullOfDoubt lets a store know as many records of doubt as it may.
func fullOfDoubt(t *testing.T, s *store.Store) {
	t.Helper()
	for i := range 32 {
		record(t, s, doubt(signed(50, 1), signed(uint64(51+i), 1)))
	}
}

// describe is what is sent, in short.
func describe(l []node.Out) string {
	s := ""
	for _, o := range l {
		s += " " + strconv.Itoa(o.To) + ":"
		m, err := msg.Get(o.Data)
		if err != api.OK {
			s += "error " + strconv.Itoa(int(err))
			continue
		}
		s += strconv.Itoa(m.Kind)
		switch m.Kind {
		case msg.Gives:
			s += "(" + strconv.FormatUint(m.Head.Key.Size, 10) + ")"
		case msg.Pulls:
			s += "(" + strconv.Itoa(len(m.Keys)) + ")"
		case msg.Asks:
			s += "(" + strconv.FormatUint(m.Want.Old.Size, 10) + "," + strconv.FormatUint(m.Want.Now.Size, 10) + ")"
		case msg.Tells:
			s += "(" + strconv.Itoa(len(m.Digest.Keys)) + "," + strconv.Itoa(len(m.Digest.Frauds)) + ")"
		}
	}
	return "[" + s + " ]"
}

// expectOuts holds what is sent against what should be.
func expectOuts(t *testing.T, name string, got []node.Out, want ...[]node.Out) {
	t.Helper()
	all := slices.Concat(want...)
	alike := func(a, b node.Out) bool { return a.To == b.To && bytes.Equal(a.Data, b.Data) }
	if !slices.EqualFunc(got, all, alike) {
		t.Errorf("%s: sent %s, want %s, or other bytes", name, describe(got), describe(all))
	}
}

func expectHeads(t *testing.T, n *node.Node, want ...head.Head) {
	t.Helper()
	if got := n.Keys(); !slices.Equal(got, keysOf(want...)) {
		t.Errorf("Keys: %v, want %v", got, keysOf(want...))
	}
	for _, h := range want {
		if got, ok := n.Get(h.Key); !ok || got != h {
			t.Errorf("Get of %v: %v, or another head", h.Key, ok)
		}
	}
}

func expectWants(t *testing.T, n *node.Node, want ...fetch.Want) {
	t.Helper()
	if got := n.Wants(); !slices.Equal(got, want) {
		t.Errorf("Wants: %v, want %v", sizes(got), sizes(want))
	}
}

// sizes are those of which it is asked.
func sizes(l []fetch.Want) [][2]uint64 {
	var out [][2]uint64
	for _, w := range l {
		out = append(out, [2]uint64{w.Old.Size, w.Now.Size})
	}
	return out
}

func expectFrauds(t *testing.T, n *node.Node, want ...fraud.Proof) {
	t.Helper()
	if got := n.Frauds(); !slices.Equal(got, want) {
		t.Errorf("%d proofs, want %d, or others", len(got), len(want))
	}
}

func expectDoubts(t *testing.T, n *node.Node, want ...fraud.Challenge) {
	t.Helper()
	if got := n.Doubts(); !slices.Equal(got, want) {
		t.Errorf("%d records of doubt, want %d, or others", len(got), len(want))
	}
}

func expectPeer(t *testing.T, n *node.Node, peer, points, left int) {
	t.Helper()
	if got, ok := n.Peer(peer); !ok || got != (score.Peer{Points: points, Left: left}) {
		t.Errorf("peer %d: %v, %v, want %d points, %d left", peer, got, ok, points, left)
	}
}

// expectNoBlame tells whether nobody has points.
func expectNoBlame(t *testing.T, n *node.Node) {
	t.Helper()
	for peer := range config().Many {
		expectPeer(t, n, peer, 0, 0)
	}
}

func expectLinked(t *testing.T, n *node.Node, old, now head.Head, want bool) {
	t.Helper()
	if got := n.Linked(old.Key, now.Key); got != want {
		t.Errorf("Linked of %d and %d: %v", old.Key.Size, now.Key.Size, got)
	}
}

func expectErr(t *testing.T, n *node.Node, want api.Errno) {
	t.Helper()
	if got := n.Err(); got != want {
		t.Errorf("Err: %d, want %d", got, want)
	}
}

// behind is the auditor who stands on a disk behind a crash that takes all that is loose.
func behind(t *testing.T, d *disk.Disk, c node.Config) *node.Node {
	t.Helper()
	d.Crash(nil)
	return opened(t, d, c)
}

// P22.1

func TestLog(t *testing.T) {
	if node.Log != 63 {
		t.Errorf("Log: %d", node.Log)
	}
}

// with is config with a change.
func with(change func(c *node.Config)) node.Config {
	c := config()
	change(&c)
	return c
}

// badStores are configs that may not be, of which is told ahead of the disk.
func badStores() map[string]node.Config {
	all := map[string]node.Config{}
	set := func(name string, n int, change func(c *node.Config)) {
		all[name+" "+strconv.Itoa(n)] = with(change)
	}
	for _, n := range []int{33, 64, 65, math.MaxInt, 0, -1, math.MinInt} {
		set("Many", n, func(c *node.Config) { c.Many = n })
	}
	for _, n := range []int{65, math.MaxInt, 0, -1, math.MinInt} {
		set("Room", n, func(c *node.Config) { c.Room = n })
	}
	for _, n := range []int{1001, math.MaxInt, 0, -1, math.MinInt} {
		set("Limit", n, func(c *node.Config) { c.Limit = n })
		set("Hold", n, func(c *node.Config) { c.Hold = n })
	}
	return all
}

// badOthers are configs that may not be, of which is told behind the disk's errors.
func badOthers() map[string]node.Config {
	all := map[string]node.Config{}
	set := func(name string, n int, change func(c *node.Config)) {
		all[name+" "+strconv.Itoa(n)] = with(change)
	}
	for _, n := range []int{101, math.MaxInt, 0, -1, math.MinInt} {
		set("Base", n, func(c *node.Config) { c.Base, c.Most = n, 1000 })
	}
	for _, n := range []int{1001, math.MaxInt, 4, 0, -1, math.MinInt} {
		set("Most", n, func(c *node.Config) { c.Base, c.Most = 5, n })
	}
	for _, n := range []int{21, math.MaxInt, 0, -1, math.MinInt} {
		set("Budget", n, func(c *node.Config) { c.Budget = n })
	}
	for _, n := range []int{5, math.MaxInt, -1, math.MinInt} {
		set("Me", n, func(c *node.Config) { c.Me = n })
	}
	for _, n := range []int{6, math.MaxInt, 0, -1, math.MinInt} {
		set("Fan", n, func(c *node.Config) { c.Fan = n })
	}
	return all
}

// wrong is a disk with a record that is none.
func wrong(t *testing.T) *disk.Disk {
	t.Helper()
	d := blank(t, 100)
	l, err := wal.Open(d)
	if err = max(err, l.Append([]byte{9}), l.Sync()); err != api.OK {
		t.Fatalf("a record: error %d", err)
	}
	return d
}

// expectRefused opens a disk in vain.
func expectRefused(t *testing.T, name string, d *disk.Disk, c node.Config, want api.Errno) {
	t.Helper()
	if n, err := node.Open(d, c); n != nil || err != want {
		t.Errorf("%s: Open: %v, error %d, want %d", name, n != nil, err, want)
	}
}

func TestOpenOfConfigsThatMayNotBe(t *testing.T) {
	dead, wrong := blank(t, 100), wrong(t)
	kill(t, dead)
	for name, c := range badStores() {
		expectRefused(t, name, blank(t, 100), c, api.ErrArg)
		expectRefused(t, name+", dead disk", dead, c, api.ErrArg)
		expectRefused(t, name+", wrong record", wrong, c, api.ErrArg)
	}
	for name, c := range badOthers() {
		expectRefused(t, name, blank(t, 100), c, api.ErrArg)
		expectRefused(t, name+", dead disk", dead, c, api.ErrDown)
		expectRefused(t, name+", wrong record", wrong, c, api.ErrForm)
	}
}

func TestOpenOfDisksThatMayNotBe(t *testing.T) {
	dead := blank(t, 100)
	kill(t, dead)
	expectRefused(t, "nil", nil, config(), api.ErrArg)
	expectRefused(t, "few blocks", blank(t, 3), config(), api.ErrArg)
	expectRefused(t, "dead", dead, config(), api.ErrDown)
	expectRefused(t, "wrong record", wrong(t), config(), api.ErrForm)
	d := stored(t, config(), func(s *store.Store) { hold(t, s, signed(1), signed(2)) })
	b, _ := d.Read(2)
	b[17] ^= 1
	d.Write(2, b)
	expectRefused(t, "a bit of a record", d, config(), api.ErrSum)
}

func TestOpenOfConfigsThatMayBe(t *testing.T) {
	for name, change := range map[string]func(c *node.Config){
		"Many 32":        func(c *node.Config) { c.Many = 32 },
		"Many 32, last":  func(c *node.Config) { c.Many, c.Me, c.Fan = 32, 31, 32 },
		"Many 1":         func(c *node.Config) { c.Many, c.Fan = 1, 1 },
		"Me 4":           func(c *node.Config) { c.Me = 4 },
		"Fan 5":          func(c *node.Config) { c.Fan = 5 },
		"Fan 1":          func(c *node.Config) { c.Fan = 1 },
		"Room 1":         func(c *node.Config) { c.Room = 1 },
		"Room 64":        func(c *node.Config) { c.Room = 64 },
		"Limit 1":        func(c *node.Config) { c.Limit, c.Hold = 1, 1 },
		"Limit 1000":     func(c *node.Config) { c.Limit, c.Hold = 1000, 1000 },
		"Base 1":         func(c *node.Config) { c.Base, c.Most, c.Budget = 1, 1, 1 },
		"Base 100":       func(c *node.Config) { c.Base, c.Most, c.Budget = 100, 1000, 20 },
		"Most as Base":   func(c *node.Config) { c.Base, c.Most = 100, 100 },
		"no public root": func(c *node.Config) { c.Public = api.Hash{} },
		"Seed at most":   func(c *node.Config) { c.Seed = math.MaxUint64 },
	} {
		n, err := node.Open(blank(t, 4), with(change))
		if n == nil || err != api.OK {
			t.Errorf("%s: Open: %v, error %d", name, n != nil, err)
			continue
		}
		expectErr(t, n, api.OK)
		expectHeads(t, n)
		expectWants(t, n)
		expectFrauds(t, n)
		expectDoubts(t, n)
	}
}

// What its store knows it tells.
func TestOpenTellsWhatIsKnown(t *testing.T) {
	a, b, x := signed(2, 1), signed(3, 1), signed(3, 2)
	p, q := proof(b, x), doubt(a, x)
	n, _ := knowing(t, config(), func(s *store.Store) {
		hold(t, s, a, b, x)
		if err := s.Link(a.Key, b.Key); err != api.OK {
			t.Fatalf("Link: error %d", err)
		}
		prove(t, s, p)
		record(t, s, q)
		s.Blame(1, 12)
		s.Blame(2, 3)
	})
	expectHeads(t, n, a, b, x)
	expectLinked(t, n, a, b, true)
	expectLinked(t, n, a, x, false)
	expectFrauds(t, n, p)
	expectDoubts(t, n, q)
	expectPeer(t, n, 0, 0, 0)
	expectPeer(t, n, 1, 5, 3)
	expectPeer(t, n, 2, 3, 0)
	for _, peer := range []int{-1, 5, node.Log} {
		if got, ok := n.Peer(peer); ok || got != (score.Peer{}) {
			t.Errorf("peer %d: %v, %v", peer, got, ok)
		}
	}
	if h, ok := n.Latest(); !ok || h != b {
		t.Errorf("Latest: %v, %v", h.Key, ok)
	}
	if h, ok := n.Get(key(4, 1)); ok || h != (head.Head{}) {
		t.Errorf("Get of what isn't held: %v, or a head", ok)
	}
	// Linked, and doubted.
	expectWants(t, n)
}

// Each key is asked on to the next sizes alone.
func TestOpenAsksOn(t *testing.T) {
	for name, c := range map[string]struct {
		held []head.Head
		want []fetch.Want
	}{
		"none":            {},
		"one":             {held: rising(1)},
		"two":             {rising(2), []fetch.Want{wish(signed(1, 1), signed(2, 1))}},
		"three":           {rising(3), []fetch.Want{wish(signed(1, 1), signed(2, 1)), wish(signed(2, 1), signed(3, 1))}},
		"no entries":      {held: []head.Head{signed(0, 1), signed(0, 2)}},
		"none and one":    {held: []head.Head{signed(0, 1), signed(1, 1)}},
		"one size":        {held: []head.Head{signed(4, 1), signed(4, 2), signed(4, 3)}},
		"far apart":       {[]head.Head{signed(1), signed(math.MaxUint64)}, []fetch.Want{wish(signed(1), signed(math.MaxUint64))}},
		"none, and above": {[]head.Head{signed(0), signed(7), signed(9)}, []fetch.Want{wish(signed(7), signed(9))}},
		"several of a size": {
			[]head.Head{signed(0, 1), signed(2, 1), signed(2, 2), signed(5, 1), signed(9, 1), signed(9, 2)},
			[]fetch.Want{
				wish(signed(2, 1), signed(5, 1)), wish(signed(2, 2), signed(5, 1)),
				wish(signed(5, 1), signed(9, 1)), wish(signed(5, 1), signed(9, 2)),
			},
		},
	} {
		t.Run(name, func(t *testing.T) {
			n, _ := holding(t, config(), c.held...)
			expectWants(t, n, c.want...)
		})
	}
}

// What is linked, and what is doubted, isn't asked for; what is like it is.
func TestOpenAsksOnWhatIsntKnown(t *testing.T) {
	l := rising(4)
	x := signed(2, 9)
	n, _ := knowing(t, config(), func(s *store.Store) {
		hold(t, s, append(l, x)...)
		if err := max(s.Link(l[0].Key, l[1].Key), s.Link(l[0].Key, l[3].Key)); err != api.OK {
			t.Fatalf("Link: error %d", err)
		}
		record(t, s, doubt(again(l[1]), again(l[2])), doubt(l[1], l[3]), doubt(l[0], l[2]))
	})
	expectWants(t, n, wish(l[0], x), wish(x, l[2]), wish(l[2], l[3]))
}

// What was asked for is so again behind a crash, from its beginning on.
func TestOpenAsksAnew(t *testing.T) {
	l := rising(2)
	n, d := holding(t, config(), l...)
	for range 3 {
		n.Tick()
	}
	n = behind(t, d, config())
	expectWants(t, n, wish(l[0], l[1]))
	for tick := 1; tick <= 3; tick++ {
		want := [][]node.Out{outs(asks(wish(l[0], l[1])), node.Log), nil}[tick/3]
		expectOuts(t, "tick "+strconv.Itoa(tick), n.Tick()[:len(want)], want)
	}
}

// The dice of what is asked for are those of Seed and 1.
func TestOpenSeedsWhatIsAskedFor(t *testing.T) {
	for _, seed := range []uint64{0, 1, 7, 1 << 63, math.MaxUint64 - 1, math.MaxUint64} {
		c := with(func(c *node.Config) { c.Seed, c.Base, c.Most, c.Budget, c.Room = seed, 50, 300, 4, 64 })
		l := rising(6)
		n, _ := holding(t, c, l...)
		table, _ := fetch.New(c.Base, c.Most, c.Budget)
		for i := range l[1:] {
			table.Start(wish(l[i], l[i+1]))
		}
		draws := dice.New(seed + 1)
		for tick := range 400 {
			now, _ := table.Tick(draws)
			var got []fetch.Want
			for _, o := range n.Tick() {
				if m, _ := msg.Get(o.Data); m.Kind == msg.Asks {
					got = append(got, m.Want)
				}
			}
			if !slices.Equal(got, now) {
				t.Fatalf("seed %d, tick %d: asked for %v, want %v", seed, tick, sizes(got), sizes(now))
			}
		}
	}
}

// Whom it tells is drawn out of Seed.
func TestOpenSeedsWhomItTells(t *testing.T) {
	for _, seed := range []uint64{0, 1, 7, math.MaxUint64} {
		c := with(func(c *node.Config) { c.Seed, c.Many, c.Me, c.Fan = seed, 32, 5, 7 })
		n, _ := holding(t, c)
		g, _ := gossip.New(c.Me, c.Many, c.Fan, seed)
		var all []int
		for peer := range c.Many {
			all = append(all, peer)
		}
		for range 20 {
			expectOuts(t, "Tick", n.Tick(), outs(tells(nil, nil), g.Round(all)...))
		}
	}
}

// nothing holds that of an auditor that there isn't, or that Open didn't make.
func expectNothing(t *testing.T, n *node.Node) {
	t.Helper()
	for _, from := range []int{-1, 0, 1, node.Log} {
		for _, b := range [][]byte{nil, {9}, put(gives(signed(3, 1))), put(pulls(key(1))), put(tells(keysOf(rising(2)...), nil)), put(proves(proofs(1)[0])), put(proven(1, 2)), put(asks(fetch.Want{}))} {
			expectOuts(t, "Handle", n.Handle(from, b))
		}
	}
	expectOuts(t, "Tick", n.Tick())
	expectHeads(t, n)
	expectWants(t, n)
	expectFrauds(t, n)
	expectDoubts(t, n)
	expectErr(t, n, api.ErrArg)
	expectLinked(t, n, grown(1), grown(2), false)
	if h, ok := n.Latest(); ok || h != (head.Head{}) {
		t.Errorf("Latest: %v, or a head", ok)
	}
	if h, ok := n.Get(signed(3, 1).Key); ok || h != (head.Head{}) {
		t.Errorf("Get: %v, or a head", ok)
	}
	if p, ok := n.Peer(0); ok || p != (score.Peer{}) {
		t.Errorf("Peer: %v, %v", p, ok)
	}
}

func TestOfNil(t *testing.T) { expectNothing(t, nil) }

func TestThatOpenDidntMake(t *testing.T) { expectNothing(t, &node.Node{}) }

// P22.2: who is heard

// Of whom nothing counts nothing is done, and nobody is blamed.
func TestHandleOfStrangers(t *testing.T) {
	c := with(func(c *node.Config) { c.Me = 2 })
	for _, from := range []int{2, -1, math.MinInt, 5, 6, 31, 32, 62, 64, 127, 319, math.MaxInt} {
		n, _ := holding(t, c, grown(1), grown(2))
		for _, b := range [][]byte{
			nil, {9},
			put(gives(signed(3, 1))), put(gives(forged(3, 1))),
			put(proves(proofs(1)[0])), put(proves(proof(forged(1, 1), forged(1, 2)))),
			put(pulls(grown(1).Key)), put(tells(nil, nil)), put(tells(keysOf(rising(2)...), nil)),
			put(proven(1, 2)), put(goes(wish(grown(1), grown(2)))),
		} {
			expectOuts(t, "from "+strconv.Itoa(from), n.Handle(from, b))
		}
		expectHeads(t, n, grown(1), grown(2))
		expectFrauds(t, n)
		expectWants(t, n, wish(grown(1), grown(2)))
		expectLinked(t, n, grown(1), grown(2), false)
		expectNoBlame(t, n)
	}
}

// Each of the others is heard, and the log.
func TestHandleOfAllOthers(t *testing.T) {
	for _, c := range []node.Config{config(), with(func(c *node.Config) { c.Me = 4 }), with(func(c *node.Config) { c.Many = 32 })} {
		for _, from := range []int{0, 1, 2, 3, 4, 31, node.Log} {
			n, _ := holding(t, c)
			n.Handle(from, put(gives(signed(3, 1))))
			if heard := from == node.Log || from < c.Many && from != c.Me; heard != (len(n.Keys()) == 1) {
				t.Errorf("me %d of %d, from %d: holds %d", c.Me, c.Many, from, len(n.Keys()))
			}
		}
	}
}

// Who is kept away isn't heard until it is let in again, and has no more points.
func TestHandleOfWhoIsKeptAway(t *testing.T) {
	n, _ := knowing(t, config(), func(s *store.Store) {
		hold(t, s, grown(1), grown(2))
		s.Blame(3, 10)
		s.Blame(2, 9)
	})
	for left := 3; left > 0; left-- {
		expectPeer(t, n, 3, 5, left)
		for _, m := range []msg.Msg{gives(signed(3, 1)), gives(forged(3, 1)), proves(proofs(1)[0]), pulls(grown(1).Key), tells(nil, nil), proven(1, 2)} {
			expectOuts(t, "kept away", n.Handle(3, put(m)))
		}
		expectOuts(t, "kept away", n.Handle(3, nil))
		n.Tick()
	}
	expectPeer(t, n, 3, 5, 0)
	expectHeads(t, n, grown(1), grown(2))
	expectFrauds(t, n)
	expectLinked(t, n, grown(1), grown(2), false)
	expectOuts(t, "let in", n.Handle(3, put(pulls(grown(1).Key))), outs(gives(grown(1)), 3))
	expectOuts(t, "not kept away", n.Handle(2, put(pulls(grown(1).Key))), outs(gives(grown(1)), 2))
}

// P22.2: what is no message

// noMessages are bytes that msg.Get refuses.
func noMessages() map[string][]byte {
	all := map[string][]byte{
		"nil":          nil,
		"empty":        {},
		"kind 0":       {0},
		"kind 7":       {7},
		"kind 255":     {255},
		"kind alone":   {3},
		"left":         append(put(pulls()), 0),
		"too many":     {2, 33},
		"not in order": nil,
	}
	p := proof(signed(3, 1), signed(3, 2))
	all["not in order"] = slices.Concat([]byte{4}, head.Put(p.B), head.Put(p.A))
	for _, m := range []msg.Msg{tells(nil, nil), pulls(key(1)), gives(signed(3, 1)), proves(p), asks(fetch.Want{}), proven(1, 2)} {
		b := put(m)
		all["short "+strconv.Itoa(m.Kind)] = b[:len(b)-1]
		all["long "+strconv.Itoa(m.Kind)] = append(b, 0)
	}
	return all
}

func TestHandleOfWhatIsNoMessage(t *testing.T) {
	for name, b := range noMessages() {
		t.Run(name, func(t *testing.T) {
			l := []head.Head{grown(1), grown(2)}
			n, d := holding(t, config(), l...)
			expectOuts(t, "Handle", n.Handle(4, b))
			for _, n := range []*node.Node{n, behind(t, d, config())} {
				expectPeer(t, n, 4, 3, 0)
				for peer := range 4 {
					expectPeer(t, n, peer, 0, 0)
				}
				expectHeads(t, n, l...)
				expectFrauds(t, n)
				expectDoubts(t, n)
				expectWants(t, n, wish(l[0], l[1]))
			}
		})
	}
}

// Four times three points are more than ten.
func TestHandleOfWhatIsNoMessageKeepsAway(t *testing.T) {
	n, d := holding(t, config())
	for i := range 4 {
		expectPeer(t, n, 1, 3*i, 0)
		n.Handle(1, []byte{0})
	}
	for _, n := range []*node.Node{n, behind(t, d, config())} {
		expectPeer(t, n, 1, 5, 3)
		n.Handle(1, []byte{0})
		expectPeer(t, n, 1, 5, 3)
	}
}

// The log isn't blamed, whatever it sends.
func TestHandleDoesntBlameTheLog(t *testing.T) {
	n, _ := holding(t, config(), grown(1), grown(2))
	for range 5 {
		for _, b := range noMessages() {
			expectOuts(t, "no message", n.Handle(node.Log, b))
		}
		expectOuts(t, "forged head", n.Handle(node.Log, put(gives(forged(3, 1)))))
		expectOuts(t, "forged proof", n.Handle(node.Log, put(proves(proof(forged(3, 1), forged(3, 2))))))
		expectOuts(t, "no path", n.Handle(node.Log, put(goes(wish(grown(1), grown(2))))))
	}
	expectNoBlame(t, n)
	expectErr(t, n, api.OK)
	expectHeads(t, n, grown(1), grown(2))
	expectFrauds(t, n)
	expectWants(t, n, wish(grown(1), grown(2)))
	n.Handle(node.Log, put(gives(grown(3))))
	expectHeads(t, n, grown(1), grown(2), grown(3))
}

// P22.2: Tells

func TestHandleOfTells(t *testing.T) {
	l, p := rising(7), proofs(6)
	know := func(s *store.Store) {
		hold(t, s, l...)
		prove(t, s, p...)
	}
	x, y := key(20, 1), key(1, 9)
	for name, c := range map[string]struct {
		m    msg.Msg
		want [][]node.Out
	}{
		"nothing":     {tells(nil, nil), [][]node.Out{many(3, gives, l[:4]...), many(3, proves, p[:4]...)}},
		"all":         {tells(keysOf(l...), names(p...)), nil},
		"all but one": {tells(keysOf(l[:6]...), names(p[1:]...)), [][]node.Out{outs(gives(l[6]), 3), outs(proves(p[0]), 3)}},
		"four":        {tells(keysOf(l[4:]...), names(p[0], p[2])), [][]node.Out{many(3, gives, l[:4]...), many(3, proves, p[1], p[3], p[4], p[5])}},
		"five":        {tells(keysOf(l[0], l[4]), names(p[3])), [][]node.Out{many(3, gives, l[1], l[2], l[3], l[5]), many(3, proves, p[0], p[1], p[2], p[4])}},
		"backwards":   {tells(keysOf(l[6], l[5], l[4], l[0]), names(p[5], p[0])), [][]node.Out{many(3, gives, l[1], l[2], l[3]), many(3, proves, p[1:5]...)}},
		"others":      {tells(append(keysOf(l...), x, y, x), append(names(p...), api.Hash{1})), [][]node.Out{outs(pulls(x, y), 3)}},
		"others, and fewer": {
			tells(append([]api.Key{y}, keysOf(l[2:]...)...), append(names(p[1:]...), api.Hash{1})),
			[][]node.Out{outs(pulls(y), 3), many(3, gives, l[:2]...), outs(proves(p[0]), 3)},
		},
	} {
		t.Run(name, func(t *testing.T) {
			n, _ := knowing(t, config(), know)
			expectOuts(t, "Handle", n.Handle(3, put(c.m)), c.want...)
			expectHeads(t, n, l...)
			expectFrauds(t, n, p...)
			expectNoBlame(t, n)
		})
	}
}

// As many keys are pulled as a digest has.
func TestHandleOfTellsOfManyKeys(t *testing.T) {
	var l []api.Key
	for i := range 32 {
		l = append(l, key(uint64(40-i), 3))
	}
	n, _ := holding(t, config())
	expectOuts(t, "32 keys", n.Handle(1, put(tells(l, nil))), outs(pulls(l...), 1))
	expectOuts(t, "one key", n.Handle(1, put(tells(l[:1], nil))), outs(pulls(l[0]), 1))
	expectWants(t, n)
}

// Keys are held against all that are held, not against the last 32 alone; likewise proofs.
func TestHandleOfTellsWithManyHeld(t *testing.T) {
	c := with(func(c *node.Config) { c.Room = 64 })
	l, p := rising(40), proofs(32)
	n, _ := knowing(t, c, func(s *store.Store) {
		hold(t, s, l...)
		prove(t, s, p...)
	})
	expectOuts(t, "the last ones", n.Handle(1, put(tells(keysOf(l[8:]...), names(p[:31]...)))), many(1, gives, l[:4]...), outs(proves(p[31]), 1))
	expectOuts(t, "the first ones", n.Handle(1, put(tells(keysOf(l[:32]...), names(p[1:]...)))), many(1, gives, l[32:36]...), outs(proves(p[0]), 1))
}

func TestHandleOfTheLogsTells(t *testing.T) {
	n, _ := knowing(t, config(), func(s *store.Store) {
		hold(t, s, rising(3)...)
		prove(t, s, proofs(2)...)
	})
	expectOuts(t, "of the log", n.Handle(node.Log, put(tells([]api.Key{key(9)}, nil))))
	expectOuts(t, "of the log", n.Handle(node.Log, put(pulls(keysOf(rising(3)...)...))))
}

// P22.2: Pulls

func TestHandleOfPulls(t *testing.T) {
	l := rising(12)
	x := key(3, 9)
	for name, c := range map[string]struct{ m, want []head.Head }{
		"none":        {},
		"one":         {l[4:5], l[4:5]},
		"eight":       {l[:8], l[:8]},
		"nine":        {l[:9], l[:8]},
		"twelve":      {l, l[:8]},
		"backwards":   {[]head.Head{l[3], l[1], l[2]}, []head.Head{l[3], l[1], l[2]}},
		"twice":       {[]head.Head{l[3], l[3], l[2], l[3]}, []head.Head{l[3], l[3], l[2], l[3]}},
		"ten times":   {slices.Repeat(l[5:6], 10), slices.Repeat(l[5:6], 8)},
		"not held":    {[]head.Head{{Key: x}}, nil},
		"others, too": {slices.Concat([]head.Head{{Key: x}, {}, {Key: x}}, l[:5], []head.Head{{Key: x}}, l[:7]), slices.Concat(l[:5], l[:3])},
	} {
		t.Run(name, func(t *testing.T) {
			n, _ := holding(t, config(), l...)
			expectOuts(t, "Handle", n.Handle(2, put(pulls(keysOf(c.m...)...))), many(2, gives, c.want...))
			expectHeads(t, n, l...)
			expectNoBlame(t, n)
		})
	}
}

// P22.2: Gives

// A head that is new is held for good, and asked on.
func TestHandleOfGives(t *testing.T) {
	held := []head.Head{signed(0, 1), signed(2, 1), signed(2, 2), signed(5, 1), signed(9, 1)}
	olds := []fetch.Want{wish(held[1], held[3]), wish(held[2], held[3]), wish(held[3], held[4])}
	for name, c := range map[string]struct {
		h    head.Head
		more []fetch.Want
	}{
		"one":        {signed(1, 1), []fetch.Want{wish(signed(1, 1), held[1]), wish(signed(1, 1), held[2])}},
		"between":    {signed(3, 1), []fetch.Want{wish(held[1], signed(3, 1)), wish(held[2], signed(3, 1)), wish(signed(3, 1), held[3])}},
		"greatest":   {signed(11, 1), []fetch.Want{wish(held[4], signed(11, 1))}},
		"just above": {signed(10, 1), []fetch.Want{wish(held[4], signed(10, 1))}},
	} {
		for _, from := range []int{1, node.Log} {
			t.Run(name+" from "+strconv.Itoa(from), func(t *testing.T) {
				n, d := holding(t, config(), held...)
				expectWants(t, n, olds...)
				expectOuts(t, "Handle", n.Handle(from, put(gives(c.h))))
				expectWants(t, n, inOrder(append(c.more, olds...))...)
				all := slices.SortedFunc(slices.Values(append(held[:5:5], c.h)), func(a, b head.Head) int {
					if heads.Less(a.Key, b.Key) {
						return -1
					}
					return 1
				})
				expectHeads(t, n, all...)
				expectNoBlame(t, n)
				expectFrauds(t, n)
				n = behind(t, d, config())
				expectHeads(t, n, all...)
			})
		}
	}
}

// A head of no entries is held, and not asked on.
func TestHandleOfGivesOfNoEntries(t *testing.T) {
	l := rising(2)
	n, _ := holding(t, config(), l...)
	expectOuts(t, "Handle", n.Handle(1, put(gives(signed(0, 1)))))
	expectHeads(t, n, signed(0, 1), l[0], l[1])
	expectWants(t, n, wish(l[0], l[1]))
}

// inOrder is what is asked for, by Old's key, then by Now's.
func inOrder(l []fetch.Want) []fetch.Want {
	slices.SortFunc(l, func(a, b fetch.Want) int {
		if heads.Less(a.Old, b.Old) || a.Old == b.Old && heads.Less(a.Now, b.Now) {
			return -1
		}
		return 1
	})
	return l
}

// What is asked for already isn't asked for anew, but goes on.
func TestHandleOfGivesDoesntAskAnew(t *testing.T) {
	l := rising(3)
	n, _ := holding(t, config(), l[0], l[1])
	for range 3 {
		n.Tick()
	}
	n.Handle(1, put(gives(l[2])))
	n.Handle(1, put(gives(l[2])))
	expectOuts(t, "tick 4", n.Tick()[:2], outs(asks(wish(l[0], l[1])), node.Log), outs(asks(wish(l[1], l[2])), node.Log))
}

// What is doubted isn't asked for, though one of its heads comes anew.
func TestHandleOfGivesDoesntAskOnWhatIsDoubted(t *testing.T) {
	l := rising(3)
	n, _ := knowing(t, config(), func(s *store.Store) {
		hold(t, s, l[0], l[1])
		record(t, s, doubt(l[0], l[1]), doubt(l[0], l[2]), doubt(l[1], l[2]))
	})
	n.Handle(1, put(gives(l[2])))
	expectHeads(t, n, l...)
	expectWants(t, n)
}

// Forged are of another seed, changed, or of another key.
func TestHandleOfGivesThatNobodySigned(t *testing.T) {
	h := signed(3, 1)
	key, sig, path, index := h, h, h, h
	key.Key.Size = 4
	sig.Sig.One[0][0][0] ^= 1
	path.Sig.Path[2][31] ^= 1
	index.Sig.Index = 1
	for name, bad := range map[string]head.Head{"other seed": forged(3, 1), "other size": key, "a bit": sig, "path": path, "index": index, "rival": forged(2, 9), "held": forged(2, 1)} {
		t.Run(name, func(t *testing.T) {
			n, d := holding(t, config(), signed(1, 1), signed(2, 1))
			expectOuts(t, "Handle", n.Handle(3, put(gives(bad))))
			for _, n := range []*node.Node{n, behind(t, d, config())} {
				expectPeer(t, n, 3, 5, 0)
				expectHeads(t, n, signed(1, 1), signed(2, 1))
				expectFrauds(t, n)
				expectWants(t, n, wish(signed(1, 1), signed(2, 1)))
				expectErr(t, n, api.OK)
			}
			n = behind(t, d, config())
			n.Handle(3, put(gives(bad)))
			expectPeer(t, n, 3, 5, 3)
		})
	}
}

// A second root of a size is proved to all others, who gave it, too.
func TestHandleOfGivesOfTwoRoots(t *testing.T) {
	for _, from := range []int{1, 4, node.Log} {
		a, b := signed(6, 1), signed(6, 2)
		for _, pair := range [][2]head.Head{{a, b}, {b, a}} {
			n, d := holding(t, config())
			expectOuts(t, "the first", n.Handle(from, put(gives(pair[0]))))
			expectOuts(t, "the second", n.Handle(from, put(gives(pair[1]))), outs(proves(proof(a, b)), 1, 2, 3, 4))
			expectOuts(t, "again", n.Handle(from, put(gives(pair[1]))))
			for _, n := range []*node.Node{n, behind(t, d, config())} {
				expectFrauds(t, n, proof(a, b))
				expectHeads(t, n, a, b)
				expectNoBlame(t, n)
				expectWants(t, n)
			}
		}
	}
}

// Of no entries there are two roots, too.
func TestHandleOfGivesOfTwoRootsOfNothing(t *testing.T) {
	n, _ := holding(t, config(), signed(0, 1))
	expectOuts(t, "no entries", n.Handle(1, put(gives(signed(0, 2)))), outs(proves(proof(signed(0, 1), signed(0, 2))), 1, 2, 3, 4))
	expectWants(t, n)
}

// A third root is proved with the one that is ahead of the others.
func TestHandleOfGivesOfThreeRoots(t *testing.T) {
	n, _ := holding(t, config(), signed(6, 5), signed(6, 7))
	expectOuts(t, "between", n.Handle(1, put(gives(signed(6, 6)))), outs(proves(proof(signed(6, 5), signed(6, 6))), 1, 2, 3, 4))
	expectOuts(t, "ahead", n.Handle(1, put(gives(signed(6, 1)))), outs(proves(proof(signed(6, 1), signed(6, 5))), 1, 2, 3, 4))
	expectOuts(t, "behind", n.Handle(1, put(gives(signed(6, 8)))), outs(proves(proof(signed(6, 1), signed(6, 8))), 1, 2, 3, 4))
	if got := len(n.Frauds()); got != 3 {
		t.Errorf("%d proofs", got)
	}
}

// Though it is held already, or there is no room, it is proved with what came.
func TestHandleOfGivesThatArentHeld(t *testing.T) {
	a, b := signed(6, 1), signed(6, 2)
	n, _ := holding(t, config(), a, b)
	expectFrauds(t, n)
	expectOuts(t, "held", n.Handle(2, put(gives(again(b)))), outs(proves(proof(a, again(b))), 1, 2, 3, 4))
	expectFrauds(t, n, proof(a, again(b)))
	expectHeads(t, n, a, b)
	expectOuts(t, "held, and proved", n.Handle(2, put(gives(b))))
	expectOuts(t, "held, and proved", n.Handle(2, put(gives(a))))
	expectFrauds(t, n, proof(a, again(b)))

	full := with(func(c *node.Config) { c.Room = 1 })
	n, d := holding(t, full, a)
	expectOuts(t, "no room", n.Handle(2, put(gives(signed(7, 1)))))
	expectHeads(t, n, a)
	expectWants(t, n)
	expectErr(t, n, api.OK)
	expectOuts(t, "no room, rival", n.Handle(2, put(gives(b))), outs(proves(proof(a, b)), 1, 2, 3, 4))
	expectHeads(t, n, a)
	expectFrauds(t, n, proof(a, b))
	expectErr(t, n, api.OK)
	expectNoBlame(t, n)
	expectFrauds(t, behind(t, d, full), proof(a, b))
}

// What is held already isn't asked on: not what isn't waited for any more, either.
func TestHandleOfGivesThatAreHeldDoesntAskOn(t *testing.T) {
	l := rising(2)
	n, _ := knowing(t, config(), func(s *store.Store) {
		hold(t, s, l...)
		fullOfDoubt(t, s)
	})
	for range 16 {
		n.Tick()
	}
	expectWants(t, n)
	n.Handle(1, put(gives(l[0])))
	n.Handle(1, put(gives(again(l[1]))))
	expectWants(t, n)
	expectHeads(t, n, l...)
}

// For a head that comes one that is linked is given up.
func TestHandleOfGivesGivesUp(t *testing.T) {
	c := with(func(c *node.Config) { c.Room = 2 })
	n, d := holding(t, c, grown(1), grown(2))
	n.Handle(node.Log, put(proven(1, 2)))
	n.Handle(1, put(gives(grown(3))))
	expectHeads(t, n, grown(2), grown(3))
	expectWants(t, n, wish(grown(2), grown(3)))
	n.Handle(1, put(gives(signed(3, 1))))
	expectHeads(t, n, grown(2), grown(3))
	n = behind(t, d, c)
	expectHeads(t, n, grown(2), grown(3))
	expectFrauds(t, n, proof(signed(3, 1), grown(3)))
}

// P22.2: Proves

func TestHandleOfProves(t *testing.T) {
	p := proof(signed(6, 1), signed(6, 2))
	for from, told := range map[int][]int{1: {2, 3, 4}, 2: {1, 3, 4}, 3: {1, 2, 4}, 4: {1, 2, 3}, node.Log: {1, 2, 3, 4}} {
		n, d := holding(t, config(), signed(6, 1), signed(7, 1))
		expectOuts(t, "Handle", n.Handle(from, put(proves(p))), outs(proves(p), told...))
		expectOuts(t, "again", n.Handle(from, put(proves(p))))
		expectOuts(t, "of another one", n.Handle(3, put(proves(p))))
		expectOuts(t, "signed anew", n.Handle(3, put(proves(proof(again(p.A), again(p.B))))))
		expectOuts(t, "its heads", n.Handle(3, put(gives(p.A))))
		expectFrauds(t, n, p)
		expectNoBlame(t, n)
		n = behind(t, d, config())
		expectFrauds(t, n, p)
		expectHeads(t, n, signed(6, 1), signed(7, 1))
		expectOuts(t, "known", n.Handle(from, put(proves(p))))
	}
}

// Who is kept away isn't told; nor is it itself, whoever it is.
func TestHandleOfProvesTellsWhoIsThere(t *testing.T) {
	p := proof(signed(6, 1), signed(6, 2))
	c := with(func(c *node.Config) { c.Many, c.Me, c.Fan = 7, 3, 1 })
	n, _ := knowing(t, c, func(s *store.Store) {
		s.Blame(1, 10)
		s.Blame(6, 20)
		s.Blame(5, 9)
	})
	expectOuts(t, "Handle", n.Handle(2, put(proves(p))), outs(proves(p), 0, 4, 5))
	for range 3 {
		n.Tick()
	}
	q := proof(signed(7, 1), signed(7, 2))
	expectOuts(t, "all are in", n.Handle(2, put(proves(q))), outs(proves(q), 0, 1, 4, 5, 6))
	expectOuts(t, "once told", n.Handle(2, put(proves(p))))
}

func TestHandleOfProvesAlone(t *testing.T) {
	p := proof(signed(6, 1), signed(6, 2))
	n, _ := holding(t, with(func(c *node.Config) { c.Many, c.Fan = 1, 1 }))
	expectOuts(t, "nobody else", n.Handle(node.Log, put(proves(p))))
	expectFrauds(t, n, p)
}

func TestHandleOfProvesThatProveNothing(t *testing.T) {
	a, b := signed(6, 1), signed(6, 2)
	changed := proof(a, b)
	changed.B.Sig.One[63][1][31] ^= 1
	for name, p := range map[string]fraud.Proof{
		"other seed": proof(forged(6, 1), forged(6, 2)),
		"first":      proof(forged(6, 1), b),
		"second":     proof(a, forged(6, 2)),
		"a bit":      changed,
		"one of him": proof(by(api.Hash{9}, 1, key(0, 1)), signed(0, 2)),
	} {
		t.Run(name, func(t *testing.T) {
			n, d := holding(t, config(), a)
			expectOuts(t, "Handle", n.Handle(2, put(proves(p))))
			for _, n := range []*node.Node{n, behind(t, d, config())} {
				expectPeer(t, n, 2, 5, 0)
				expectFrauds(t, n)
				expectHeads(t, n, a)
				expectErr(t, n, api.OK)
			}
			expectOuts(t, "then right", n.Handle(3, put(proves(proof(a, b)))), outs(proves(proof(a, b)), 1, 2, 4))
		})
	}
}

// Proofs for which there is no room aren't known, nor told; nobody is blamed.
func TestHandleOfMoreProofsThanMayBe(t *testing.T) {
	all := proofs(33)
	n, _ := knowing(t, config(), func(s *store.Store) { prove(t, s, all[:31]...) })
	expectOuts(t, "the last", n.Handle(1, put(proves(all[31]))), outs(proves(all[31]), 2, 3, 4))
	expectOuts(t, "one more", n.Handle(1, put(proves(all[32]))))
	expectFrauds(t, n, all[:32]...)
	expectErr(t, n, api.OK)
	expectNoBlame(t, n)
	// Of heads likewise.
	n.Handle(1, put(gives(all[32].A)))
	expectOuts(t, "one more, of heads", n.Handle(1, put(gives(all[32].B))))
	expectFrauds(t, n, all[:32]...)
}

// P22.2: Goes

func TestHandleOfGoes(t *testing.T) {
	for _, pair := range [][2]int{{1, 2}, {1, 7}, {3, 7}, {4, 8}, {6, 8}, {7, 8}} {
		for _, from := range []int{node.Log, 1, 4} {
			old, now := grown(pair[0]), grown(pair[1])
			n, d := holding(t, config(), old, now)
			expectWants(t, n, wish(old, now))
			expectOuts(t, "Handle", n.Handle(from, put(proven(pair[0], pair[1]))))
			for _, n := range []*node.Node{n, behind(t, d, config())} {
				expectLinked(t, n, old, now, true)
				expectLinked(t, n, now, old, false)
				expectWants(t, n)
				expectNoBlame(t, n)
				expectHeads(t, n, old, now)
			}
			// It isn't asked for any more.
			expectOuts(t, "again", n.Handle(1, put(goes(wish(old, now), api.Hash{}))))
			expectNoBlame(t, n)
			for range 20 {
				for _, o := range n.Tick() {
					if o.To == node.Log {
						t.Errorf("Tick: sent %s", describe([]node.Out{o}))
					}
				}
			}
			expectDoubts(t, n)
		}
	}
}

// Of what isn't asked for nothing is learnt, right or wrong, and nobody is blamed.
func TestHandleOfGoesThatWasntAskedFor(t *testing.T) {
	l := []head.Head{grown(1), grown(2), grown(4)}
	n, _ := knowing(t, config(), func(s *store.Store) {
		hold(t, s, l...)
		record(t, s, doubt(l[0], l[1]))
	})
	expectWants(t, n, wish(l[1], l[2]))
	for _, from := range []int{1, node.Log} {
		for name, m := range map[string]msg.Msg{
			"not next":  proven(1, 4),
			"doubted":   proven(1, 2),
			"not held":  proven(2, 3),
			"no path":   goes(wish(l[0], l[1])),
			"swapped":   goes(wish(l[2], l[1])),
			"empty":     goes(fetch.Want{}),
			"of itself": goes(wish(l[1], l[1])),
		} {
			expectOuts(t, name, n.Handle(from, put(m)))
		}
	}
	expectNoBlame(t, n)
	expectWants(t, n, wish(l[1], l[2]))
	for _, old := range l {
		for _, now := range l {
			expectLinked(t, n, old, now, false)
		}
	}
}

// A path that proves nothing costs points, and it is asked for as before.
func TestHandleOfGoesThatProveNothing(t *testing.T) {
	old, now := grown(3), grown(7)
	right := proven(3, 7).Path
	wrong := slices.Clone(right)
	wrong[2][5] ^= 4
	for name, path := range map[string][]api.Hash{
		"empty":    nil,
		"short":    right[:3],
		"long":     append(slices.Clone(right), api.Hash{}),
		"a bit":    wrong,
		"64":       make([]api.Hash, 64),
		"of other": proven(2, 7).Path,
	} {
		t.Run(name, func(t *testing.T) {
			n, d := holding(t, config(), old, now)
			expectOuts(t, "Handle", n.Handle(2, put(goes(wish(old, now), path...))))
			for _, n := range []*node.Node{n, behind(t, d, config())} {
				expectPeer(t, n, 2, 3, 0)
				expectWants(t, n, wish(old, now))
				expectLinked(t, n, old, now, false)
			}
			n.Handle(node.Log, put(proven(3, 7)))
		})
	}
	// Of heads that don't go on, each path.
	x := signed(7, 1)
	n, _ := holding(t, config(), old, x)
	n.Handle(2, put(goes(wish(old, x), right...)))
	expectPeer(t, n, 2, 3, 0)
	expectLinked(t, n, old, x, false)
	expectWants(t, n, wish(old, x))
}

// A path for heads of which one was given up lets nothing be known, and isn't waited for any more.
func TestHandleOfGoesOfWhatWasGivenUp(t *testing.T) {
	c := with(func(c *node.Config) { c.Room = 3 })
	n, _ := holding(t, c, grown(1), grown(2), grown(3))
	n.Handle(node.Log, put(proven(2, 3)))
	n.Handle(1, put(gives(grown(4))))
	expectHeads(t, n, grown(1), grown(3), grown(4))
	expectWants(t, n, wish(grown(1), grown(2)), wish(grown(3), grown(4)))
	expectOuts(t, "given up", n.Handle(1, put(proven(1, 2))))
	expectWants(t, n, wish(grown(3), grown(4)))
	expectLinked(t, n, grown(1), grown(2), false)
	expectErr(t, n, api.OK)
	expectNoBlame(t, n)
}

// P22.2: all others

func TestHandleOfAsks(t *testing.T) {
	n, _ := holding(t, config(), grown(1), grown(2))
	for _, from := range []int{1, node.Log} {
		for _, w := range []fetch.Want{wish(grown(1), grown(2)), {}, wish(grown(2), grown(3))} {
			expectOuts(t, "Asks", n.Handle(from, put(asks(w))))
		}
	}
	expectNoBlame(t, n)
	expectHeads(t, n, grown(1), grown(2))
	expectWants(t, n, wish(grown(1), grown(2)))
}

// P22.2: while an error stays

// blocks is how many blocks a store writes for a change, behind what it knows.
func blocks(t *testing.T, c node.Config, fill, change func(s *store.Store)) int {
	t.Helper()
	d := stored(t, c, fill)
	s, err := store.Open(d, store.Config{Public: c.Public, Room: c.Room, Peers: c.Many, Limit: c.Limit, Hold: c.Hold})
	if err != api.OK {
		t.Fatalf("a store: error %d", err)
	}
	change(s)
	return d.Loose()
}

// expectStill tells whether an auditor whose disk is dead does nothing, and loses
// nothing that was there for good.
func expectStill(t *testing.T, n *node.Node) {
	t.Helper()
	expectErr(t, n, api.ErrDown)
	heads, wants, frauds, doubts := n.Keys(), n.Wants(), n.Frauds(), n.Doubts()
	was, _ := n.Peer(1)
	for _, from := range []int{1, node.Log} {
		for _, b := range [][]byte{
			nil, {9}, put(gives(signed(30, 1))), put(gives(forged(30, 1))), put(proves(proofs(1)[0])), put(proves(proof(forged(1, 1), forged(1, 2)))),
			put(pulls(heads...)), put(tells(nil, nil)), put(proven(1, 2)), put(goes(wish(grown(1), grown(2)))), put(asks(wish(grown(1), grown(2)))),
		} {
			expectOuts(t, "Handle", n.Handle(from, b))
		}
	}
	for range 20 {
		expectOuts(t, "Tick", n.Tick())
	}
	if !slices.Equal(n.Keys(), heads) {
		t.Errorf("Keys: %v, want %v", n.Keys(), heads)
	}
	expectWants(t, n, wants...)
	expectFrauds(t, n, frauds...)
	expectDoubts(t, n, doubts...)
	expectPeer(t, n, 1, was.Points, was.Left)
	expectErr(t, n, api.ErrDown)
}

// A head that isn't there for good is asked on, if it was only the Sync that failed.
func TestHandleOfGivesOnADeadDisk(t *testing.T) {
	a, b := grown(1), grown(2)
	fill := func(s *store.Store) { hold(t, s, a) }
	writes := blocks(t, config(), fill, func(s *store.Store) { s.Head(b) })
	for after := range writes + 3 {
		n, d := knowing(t, config(), fill)
		d.Fail(after)
		expectOuts(t, "Handle", n.Handle(1, put(gives(b))))
		if after < writes {
			expectWants(t, n)
		} else {
			expectWants(t, n, wish(a, b))
		}
		expectStill(t, n)
		expectHeads(t, behind(t, d, config()), a)
	}
	n, d := knowing(t, config(), fill)
	d.Fail(writes + 3)
	n.Handle(1, put(gives(b)))
	expectErr(t, n, api.OK)
	expectHeads(t, behind(t, d, config()), a, b)
}

// What isn't there for good isn't told.
func TestHandleOfProvesOnADeadDisk(t *testing.T) {
	a, b := signed(3, 1), signed(3, 2)
	fill := func(s *store.Store) { hold(t, s, a, b) }
	writes := blocks(t, config(), fill, func(s *store.Store) { s.Fraud(proof(a, b)) })
	for _, m := range []msg.Msg{proves(proof(a, b)), gives(b)} {
		for after := range writes + 3 {
			n, d := knowing(t, config(), fill)
			d.Fail(after)
			expectOuts(t, "fails", n.Handle(1, put(m)))
			expectStill(t, n)
			n = behind(t, d, config())
			expectFrauds(t, n)
			expectOuts(t, "behind it", n.Handle(node.Log, put(m)), outs(proves(proof(a, b)), 1, 2, 3, 4))
		}
		n, d := knowing(t, config(), fill)
		d.Fail(writes + 3)
		expectOuts(t, "goes", n.Handle(node.Log, put(m)), outs(proves(proof(a, b)), 1, 2, 3, 4))
		expectErr(t, n, api.OK)
		expectFrauds(t, behind(t, d, config()), proof(a, b))
	}
}

// Blame, and a link, are there for good at once, or an error stays.
func TestHandleOfOthersOnADeadDisk(t *testing.T) {
	for name, b := range map[string][]byte{
		"no message":   {0},
		"forged head":  put(gives(forged(3, 1))),
		"forged proof": put(proves(proof(forged(3, 1), forged(3, 2)))),
		"no path":      put(goes(wish(grown(1), grown(2)))),
		"a path":       put(proven(1, 2)),
	} {
		t.Run(name, func(t *testing.T) {
			for after := 0; ; after++ {
				n, d := holding(t, config(), grown(1), grown(2))
				d.Fail(after)
				expectOuts(t, "Handle", n.Handle(1, b))
				if n.Err() == api.OK {
					if after < 4 {
						t.Errorf("no error behind %d writes", after)
					}
					break
				}
				expectStill(t, n)
				n = behind(t, d, config())
				expectNoBlame(t, n)
				expectWants(t, n, wish(grown(1), grown(2)))
			}
		})
	}
}

// A log that is full is an error, too.
func TestHandleOnAFullDisk(t *testing.T) {
	d := blank(t, 2+2*20)
	n := opened(t, d, config())
	n.Handle(1, put(gives(signed(1, 1))))
	expectErr(t, n, api.OK)
	expectOuts(t, "Handle", n.Handle(1, put(gives(signed(2, 1)))))
	expectErr(t, n, api.ErrFull)
	expectOuts(t, "Tick", n.Tick())
	expectOuts(t, "Handle", n.Handle(1, put(pulls(signed(1, 1).Key))))
	expectHeads(t, behind(t, d, config()), signed(1, 1))
}

// P22.3

// A twin of gossip tells who is told.
func drawing(c node.Config) *gossip.Gossip {
	g, _ := gossip.New(c.Me, c.Many, c.Fan, c.Seed)
	return g
}

// all are the numbers of n peers.
func all(n int) []int {
	var l []int
	for peer := range n {
		l = append(l, peer)
	}
	return l
}

// What is asked for comes first, in order, then what is told.
func TestTick(t *testing.T) {
	l := rising(3)
	p := proofs(2)
	c := with(func(c *node.Config) { c.Me, c.Many, c.Fan = 3, 9, 4 })
	n, _ := knowing(t, c, func(s *store.Store) {
		hold(t, s, l...)
		prove(t, s, p...)
	})
	g := drawing(c)
	for tick := 1; tick <= 20; tick++ {
		var want []node.Out
		if slices.Contains([]int{1, 2, 4, 8, 12}, tick) {
			want = many(node.Log, asks, wish(l[0], l[1]), wish(l[1], l[2]))
		}
		expectOuts(t, "tick "+strconv.Itoa(tick), n.Tick(), want, outs(tells(keysOf(l...), names(p...)), g.Round(all(9))...))
		if tick < 16 {
			expectWants(t, n, wish(l[0], l[1]), wish(l[1], l[2]))
			expectDoubts(t, n)
		} else {
			expectWants(t, n)
			expectDoubts(t, n, doubt(l[0], l[1]), doubt(l[1], l[2]))
		}
	}
	expectHeads(t, n, l...)
	expectFrauds(t, n, p...)
}

func TestTickOfOneThatKnowsNothing(t *testing.T) {
	for _, fan := range []int{1, 2, 4, 5} {
		c := with(func(c *node.Config) { c.Fan = fan })
		n, d := holding(t, c)
		g := drawing(c)
		d.Fail(0)
		for range 10 {
			got := n.Tick()
			expectOuts(t, "Tick", got, outs(tells(nil, nil), g.Round(all(5))...))
			if want := min(fan, 4); len(got) != want {
				t.Errorf("fan %d: tells %d", fan, len(got))
			}
		}
		// There was nothing to sync.
		expectErr(t, n, api.OK)
	}
}

func TestTickAlone(t *testing.T) {
	n, _ := holding(t, with(func(c *node.Config) { c.Many, c.Fan = 1, 1 }), rising(2)...)
	expectOuts(t, "Tick", n.Tick(), outs(asks(wish(signed(1, 1), signed(2, 1))), node.Log))
	expectOuts(t, "Tick", n.Tick(), outs(asks(wish(signed(1, 1), signed(2, 1))), node.Log))
	expectOuts(t, "Tick", n.Tick())
}

// Of the keys the last 32 are told, of the proofs all.
func TestTickTellsTheLast(t *testing.T) {
	c := with(func(c *node.Config) { c.Room, c.Fan = 64, 1 })
	p := proofs(32)
	for _, held := range []int{31, 32, 33, 64} {
		l := rising(held)
		n, _ := knowing(t, c, func(s *store.Store) {
			hold(t, s, l...)
			prove(t, s, p...)
			for i := range l[1:] {
				s.Link(l[i].Key, l[i+1].Key)
			}
		})
		last := l[max(0, held-32):]
		expectOuts(t, strconv.Itoa(held), n.Tick(), outs(tells(keysOf(last...), names(p...)), drawing(c).Round(all(5))...))
	}
}

// A record of doubt is there for good, and its heads aren't asked for any more.
func TestTickDoubts(t *testing.T) {
	l := rising(2)
	n, d := holding(t, config(), l...)
	for range 15 {
		n.Tick()
	}
	expectDoubts(t, behind(t, d, config()))
	n = behind(t, d, config())
	for range 16 {
		expectDoubts(t, n)
		n.Tick()
	}
	for _, n := range []*node.Node{n, behind(t, d, config())} {
		expectDoubts(t, n, doubt(l[0], l[1]))
		expectWants(t, n)
		expectLinked(t, n, l[0], l[1], false)
		expectHeads(t, n, l...)
		expectFrauds(t, n)
	}
	// A path that comes too late isn't asked for.
	n.Handle(node.Log, put(goes(wish(l[0], l[1]))))
	expectNoBlame(t, n)
}

// What was given up since isn't doubted, be it the lower one or the greater.
func TestTickDoesntDoubtWhatWasGivenUp(t *testing.T) {
	l := rising(4)
	c := with(func(c *node.Config) { c.Room = 3 })
	for _, given := range []int{0, 1} {
		n, d := knowing(t, c, func(s *store.Store) {
			hold(t, s, l[:3]...)
			if err := s.Link(l[given].Key, l[2].Key); err != api.OK {
				t.Fatalf("Link: error %d", err)
			}
		})
		want := []fetch.Want{wish(l[0], l[1]), wish(l[1], l[2])}[:2-given]
		expectWants(t, n, want...)
		n.Handle(1, put(gives(l[3])))
		expectWants(t, n, append(want, wish(l[2], l[3]))...)
		for range 16 {
			n.Tick()
		}
		expectWants(t, n)
		var doubts []fraud.Challenge
		if given == 0 {
			doubts = append(doubts, doubt(l[1], l[2]))
		}
		doubts = append(doubts, doubt(l[2], l[3]))
		expectDoubts(t, n, doubts...)
		expectErr(t, n, api.OK)
		expectDoubts(t, behind(t, d, c), doubts...)
	}
}

// Records for which there is no room aren't kept; all goes on.
func TestTickFullOfDoubt(t *testing.T) {
	c := config()
	l := rising(2)
	n, _ := knowing(t, c, func(s *store.Store) {
		hold(t, s, l...)
		fullOfDoubt(t, s)
	})
	g := drawing(c)
	were := n.Doubts()
	for tick := 1; tick <= 18; tick++ {
		var want []node.Out
		if slices.Contains([]int{1, 2, 4, 8, 12}, tick) {
			want = outs(asks(wish(l[0], l[1])), node.Log)
		}
		expectOuts(t, "tick "+strconv.Itoa(tick), n.Tick(), want, outs(tells(keysOf(l...), nil), g.Round(all(5))...))
	}
	expectWants(t, n)
	expectDoubts(t, n, were...)
	expectErr(t, n, api.OK)
}

// Who is kept away isn't told; who is let in at a tick is told at it.
func TestTickTellsWhoIsThere(t *testing.T) {
	c := with(func(c *node.Config) { c.Many, c.Fan = 6, 6 })
	n, d := knowing(t, c, func(s *store.Store) {
		s.Blame(2, 10)
		s.Blame(5, 10)
		s.Tick()
		s.Blame(4, 10)
	})
	g := drawing(c)
	expectPeer(t, n, 2, 5, 2)
	expectPeer(t, n, 4, 5, 3)
	for _, there := range [][]int{{0, 1, 3}, {0, 1, 2, 3, 5}, {0, 1, 2, 3, 4, 5}, {0, 1, 2, 3, 4, 5}} {
		expectOuts(t, "Tick", n.Tick(), outs(tells(nil, nil), g.Round(there)...))
	}
	// Time that went by is there for good.
	n = behind(t, d, c)
	expectPeer(t, n, 2, 5, 0)
	expectPeer(t, n, 4, 5, 0)
	expectPeer(t, n, 5, 5, 0)
}

// Time that isn't there for good is an error: what is asked for is so yet, nobody is told.
func TestTickOnADeadDisk(t *testing.T) {
	l := rising(2)
	for after := 0; ; after++ {
		n, d := knowing(t, config(), func(s *store.Store) {
			hold(t, s, l...)
			s.Blame(1, 10)
		})
		d.Fail(after)
		got := n.Tick()
		if n.Err() == api.OK {
			expectOuts(t, "Tick", got, outs(asks(wish(l[0], l[1])), node.Log), outs(tells(keysOf(l...), nil), drawing(config()).Round([]int{0, 2, 3, 4})...))
			if after < 4 {
				t.Errorf("no error behind %d writes", after)
			}
			break
		}
		expectOuts(t, "Tick", got, outs(asks(wish(l[0], l[1])), node.Log))
		expectPeer(t, n, 1, 5, 2)
		expectStill(t, n)
		expectPeer(t, behind(t, d, config()), 1, 5, 3)
	}
}

// So is a record of doubt, ahead of which what else was asked for is so yet.
func TestTickOfDoubtOnADeadDisk(t *testing.T) {
	l := rising(4)
	late := []fetch.Want{wish(l[1], l[2]), wish(l[2], l[3])}
	fill := func(s *store.Store) { hold(t, s, l[:2]...) }
	for after := 0; ; after++ {
		n, d := knowing(t, config(), fill)
		g := drawing(config())
		for tick := 1; tick < 16; tick++ {
			n.Tick()
			g.Round(all(5))
			if tick == 12 {
				n.Handle(1, put(gives(l[2])))
				n.Handle(1, put(gives(l[3])))
			}
		}
		d.Fail(after)
		got := n.Tick()
		expectWants(t, n, late...)
		if n.Err() == api.OK {
			expectOuts(t, "Tick", got, many(node.Log, asks, late...), outs(tells(keysOf(l...), nil), g.Round(all(5))...))
			if after < 30 {
				t.Errorf("no error behind %d writes", after)
			}
			break
		}
		expectOuts(t, "Tick", got, many(node.Log, asks, late...))
		expectStill(t, n)
		n = behind(t, d, config())
		expectDoubts(t, n)
		expectWants(t, n, append([]fetch.Want{wish(l[0], l[1])}, late...)...)
	}
}

// P22.4

// What it told anybody of a proof it knows behind each crash, wherever it fell.
func TestWhatIsToldOfProofsIsThereForGood(t *testing.T) {
	a, b := signed(3, 1), signed(3, 2)
	p := proofs(1)[0]
	calls := []func(n *node.Node) []node.Out{
		func(n *node.Node) []node.Out { return n.Handle(1, put(gives(a))) },
		func(n *node.Node) []node.Out { return n.Handle(2, put(gives(b))) },
		func(n *node.Node) []node.Out { return n.Tick() },
		func(n *node.Node) []node.Out { return n.Handle(2, []byte{0}) },
		func(n *node.Node) []node.Out { return n.Handle(1, put(proves(p))) },
		func(n *node.Node) []node.Out { return n.Handle(1, put(tells(nil, nil))) },
		func(n *node.Node) []node.Out { return n.Tick() },
	}
	r := rand.New(rand.NewSource(22))
	for after := 0; ; after++ {
		d := blank(t, 2+2*140)
		n := opened(t, d, config())
		d.Fail(after)
		told := map[api.Hash]bool{}
		for _, call := range calls {
			tellsOf(t, told, call(n))
		}
		failed := n.Err() != api.OK
		front := make([]byte, r.Intn(80))
		r.Read(front)
		d.Crash(front)
		n = opened(t, d, config())
		for _, id := range names(n.Frauds()...) {
			delete(told, id)
		}
		if len(told) != 0 {
			t.Errorf("behind %d writes: %d proofs that were told aren't known", after, len(told))
		}
		if !failed {
			expectFrauds(t, n, ordered(p, proof(a, b))...)
			break
		}
	}
}

// tellsOf notes of which proofs is told.
func tellsOf(t *testing.T, told map[api.Hash]bool, l []node.Out) {
	t.Helper()
	for _, o := range l {
		m, err := msg.Get(o.Data)
		if err != api.OK {
			t.Fatalf("sent what is no message: error %d", err)
		}
		if m.Kind == msg.Proves {
			told[fraud.Id(m.Proof)] = true
		}
		for _, id := range m.Digest.Frauds {
			told[id] = true
		}
	}
}

// Any bytes that are no message cost three points, and change nothing else.
func TestWhatIsNoneChangesNothing(t *testing.T) {
	r := rand.New(rand.NewSource(4))
	c := with(func(c *node.Config) { c.Limit = 1000 })
	n, _ := holding(t, c, grown(1), grown(2))
	right := [][]byte{put(gives(grown(3))), put(proves(proofs(1)[0])), put(tells(nil, nil)), put(pulls(grown(1).Key)), put(proven(1, 2)), put(asks(fetch.Want{}))}
	points := 0
	for range 300 {
		b := slices.Clone(right[r.Intn(len(right))])
		b = b[:r.Intn(len(b))]
		if r.Intn(2) == 0 {
			b = append(slices.Clone(right[r.Intn(len(right))]), b...)
		}
		if _, err := msg.Get(b); err == api.OK {
			continue
		}
		expectOuts(t, "Handle", n.Handle(1, b))
		points += 3
		expectPeer(t, n, 1, points, 0)
	}
	expectHeads(t, n, grown(1), grown(2))
	expectWants(t, n, wish(grown(1), grown(2)))
	expectFrauds(t, n)
	expectDoubts(t, n)
	expectErr(t, n, api.OK)
	expectLinked(t, n, grown(1), grown(2), false)
}

// Rules

// Whoever changes what was answered, or what was handed in, changes nothing else.
func TestNewMemory(t *testing.T) {
	l, p := rising(3), proofs(3)
	n, d := knowing(t, config(), func(s *store.Store) {
		hold(t, s, l...)
		prove(t, s, p...)
		record(t, s, doubt(l[0], l[2]))
	})
	spoil := func(got []node.Out) {
		for i := range got {
			was := make([][]byte, len(got))
			for j := range got {
				was[j] = slices.Clone(got[j].Data)
			}
			clear(got[i].Data[:cap(got[i].Data)])
			for j := range got {
				if j != i && !bytes.Equal(got[j].Data, was[j]) {
					t.Errorf("%d and %d share bytes", i, j)
				}
			}
		}
		clear(got)
	}
	spoil(n.Tick())
	spoil(n.Handle(1, put(tells([]api.Key{key(9)}, nil))))
	spoil(n.Handle(1, put(pulls(l[0].Key, l[0].Key))))
	q := proof(signed(9, 1), signed(9, 2))
	spoil(n.Handle(1, put(proves(q))))
	b := put(gives(signed(4, 1)))
	spoil(n.Handle(1, b))
	clear(b)
	clear(n.Keys())
	clear(n.Frauds())
	clear(n.Doubts())
	clear(n.Wants())
	for _, n := range []*node.Node{n, behind(t, d, config())} {
		expectHeads(t, n, append(l, signed(4, 1))...)
		expectFrauds(t, n, ordered(append(slices.Clone(p), q)...)...)
		expectDoubts(t, n, doubt(l[0], l[2]))
		expectWants(t, n, wish(l[0], l[1]), wish(l[1], l[2]), wish(l[2], signed(4, 1)))
	}
}

// What is handed in isn't changed.
func TestHandleLeavesBytes(t *testing.T) {
	n, _ := holding(t, config(), grown(1), grown(2))
	for _, m := range []msg.Msg{gives(signed(3, 1)), gives(signed(3, 2)), proves(proofs(1)[0]), tells([]api.Key{key(9)}, nil), pulls(key(1)), proven(1, 2), asks(fetch.Want{})} {
		b := put(m)
		n.Handle(1, b)
		if !bytes.Equal(b, put(m)) {
			t.Errorf("kind %d: the bytes are others", m.Kind)
		}
	}
}

// Auditors share nothing.
func TestThingsApart(t *testing.T) {
	a, _ := holding(t, config(), grown(1))
	b, _ := holding(t, config(), grown(1))
	a.Handle(1, put(gives(grown(2))))
	a.Handle(1, put(proves(proofs(1)[0])))
	a.Handle(2, nil)
	a.Tick()
	expectHeads(t, b, grown(1))
	expectFrauds(t, b)
	expectWants(t, b)
	expectNoBlame(t, b)
	expectOuts(t, "Tick", b.Tick(), outs(tells(keysOf(grown(1)), nil), drawing(config()).Round(all(5))...))
	expectOuts(t, "Handle", b.Handle(1, put(proves(proofs(1)[0]))), outs(proves(proofs(1)[0]), 2, 3, 4))
}

// All of it

// twin is an auditor by the document's words, on a disk of its own.
type twin struct {
	c     node.Config
	disk  *disk.Disk
	store *store.Store
	fetch *fetch.Table
	talk  *gossip.Gossip
	dice  *dice.Dice
}

func (w *twin) open(t *testing.T) {
	t.Helper()
	s, err := store.Open(w.disk, store.Config{Public: w.c.Public, Room: w.c.Room, Peers: w.c.Many, Limit: w.c.Limit, Hold: w.c.Hold})
	if err != api.OK {
		t.Fatalf("a store: error %d", err)
	}
	w.store = s
	w.fetch, _ = fetch.New(w.c.Base, w.c.Most, w.c.Budget)
	w.talk, _ = gossip.New(w.c.Me, w.c.Many, w.c.Fan, w.c.Seed)
	w.dice = dice.New(w.c.Seed + 1)
	for _, k := range s.Keys() {
		w.askOn(k)
	}
}

// next tells whether no size that is held is between two others.
func (w *twin) next(low, high uint64) bool {
	for _, k := range w.store.Keys() {
		if low < k.Size && k.Size < high {
			return false
		}
	}
	return low >= 1 && low < high
}

func (w *twin) askOn(k api.Key) {
	for _, o := range w.store.Keys() {
		for _, pair := range []fetch.Want{{Old: o, Now: k}, {Old: k, Now: o}} {
			known := !w.next(pair.Old.Size, pair.Now.Size) || w.store.Linked(pair.Old, pair.Now)
			for _, c := range w.store.Doubts() {
				known = known || c.Old.Key == pair.Old && c.Now.Key == pair.Now
			}
			if !known {
				w.fetch.Start(pair)
			}
		}
	}
}

func (w *twin) blame(who, points int) {
	if who != node.Log {
		w.store.Blame(who, points)
	}
	w.store.Sync()
}

func (w *twin) proved(p fraud.Proof, out int) []node.Out {
	if w.store.Fraud(p) != api.OK || w.store.Sync() != api.OK {
		return nil
	}
	return outs(proves(p), w.talk.Flood(fraud.Id(p), w.store.Peers(), out)...)
}

func (w *twin) handle(from int, b []byte) []node.Out {
	peer := from >= 0 && from < w.c.Many && from != w.c.Me
	if w.store.Err() != api.OK || !peer && from != node.Log || peer && !slices.Contains(w.store.Peers(), from) {
		return nil
	}
	m, err := msg.Get(b)
	switch {
	case err != api.OK:
		w.blame(from, 3)
	case m.Kind == msg.Tells && peer:
		var l []node.Out
		if keys := digest.Wants(w.store.Keys(), m.Digest); len(keys) > 0 {
			l = outs(pulls(keys...), from)
		}
		for i, k := range digest.Lacks(w.store.Keys(), m.Digest) {
			if h, _ := w.store.Get(k); i < 4 {
				l = append(l, outs(gives(h), from)...)
			}
		}
		missed := 0
		for _, p := range w.store.Frauds() {
			if !slices.Contains(m.Digest.Frauds, fraud.Id(p)) {
				if missed < 4 {
					l = append(l, outs(proves(p), from)...)
				}
				missed++
			}
		}
		return l
	case m.Kind == msg.Pulls && peer:
		var l []node.Out
		for _, k := range m.Keys {
			if h, ok := w.store.Get(k); ok && len(l) < 8 {
				l = append(l, outs(gives(h), from)...)
			}
		}
		return l
	case m.Kind == msg.Gives:
		err := w.store.Head(m.Head)
		if err == api.ErrSig {
			w.blame(from, 5)
			return nil
		}
		if err == api.OK {
			w.store.Sync()
			w.askOn(m.Head.Key)
		}
		if h, ok := w.store.Rival(m.Head.Key); ok {
			return w.proved(proof(m.Head, h), -1)
		}
	case m.Kind == msg.Proves:
		if fraud.Verify(w.c.Public, m.Proof) == api.OK {
			return w.proved(m.Proof, from)
		}
		w.blame(from, 5)
	case m.Kind == msg.Goes && w.fetch.Has(m.Want):
		if chain.Verify(m.Want.Old, m.Want.Now, m.Path) != api.OK {
			w.blame(from, 3)
			return nil
		}
		w.fetch.Done(m.Want)
		w.store.Link(m.Want.Old, m.Want.Now)
		w.store.Sync()
	}
	return nil
}

func (w *twin) tick() []node.Out {
	if w.store.Err() != api.OK {
		return nil
	}
	w.store.Tick()
	now, over := w.fetch.Tick(w.dice)
	l := many(node.Log, asks, now...)
	for _, want := range over {
		old, held := w.store.Get(want.Old)
		if greater, too := w.store.Get(want.Now); held && too {
			w.store.Doubt(doubt(old, greater))
		}
	}
	if w.store.Sync() != api.OK {
		return l
	}
	keys, ids := w.store.Keys(), names(w.store.Frauds()...)
	m := tells(keys[max(0, len(keys)-32):], ids)
	return append(l, outs(m, w.talk.Round(w.store.Peers())...)...)
}

// expectTwin holds all that an auditor tells against its twin.
func (w *twin) expect(t *testing.T, n *node.Node) {
	t.Helper()
	expectErr(t, n, w.store.Err())
	var l []head.Head
	for _, k := range w.store.Keys() {
		h, _ := w.store.Get(k)
		l = append(l, h)
		for _, o := range w.store.Keys() {
			if n.Linked(k, o) != w.store.Linked(k, o) {
				t.Errorf("Linked of %d and %d: %v", k.Size, o.Size, n.Linked(k, o))
			}
		}
	}
	expectHeads(t, n, l...)
	expectWants(t, n, w.fetch.Open()...)
	expectFrauds(t, n, w.store.Frauds()...)
	expectDoubts(t, n, w.store.Doubts()...)
	for peer := range w.c.Many {
		p, _ := w.store.Peer(peer)
		expectPeer(t, n, peer, p.Points, p.Left)
	}
	h, ok := w.store.Latest()
	if got, is := n.Latest(); got != h || is != ok {
		t.Errorf("Latest: %v, %v, want %v, %v", got.Key, is, h.Key, ok)
	}
}

// drawn is a message of some heads, right or wrong.
func drawn(r *rand.Rand, l []head.Head, w *twin) []byte {
	one := func() head.Head { return l[r.Intn(len(l))] }
	switch r.Intn(12) {
	case 0:
		b := make([]byte, r.Intn(50))
		r.Read(b)
		return b
	case 1:
		return put(asks(wish(one(), one())))
	case 2, 3:
		var some []head.Head
		for range r.Intn(12) {
			some = append(some, one())
		}
		return put(pulls(keysOf(some...)...))
	case 4, 5:
		var some []head.Head
		for range r.Intn(12) {
			some = append(some, one())
		}
		ids := names(w.store.Frauds()...)
		return put(tells(keysOf(some...), ids[:r.Intn(len(ids)+1)]))
	case 6:
		for range 100 {
			if p, err := fraud.Make(one(), one()); err == api.OK {
				return put(proves(p))
			}
		}
		return nil
	case 7, 8:
		open := w.fetch.Open()
		if len(open) == 0 || r.Intn(6) == 0 {
			return put(goes(wish(one(), one())))
		}
		want := open[r.Intn(len(open))]
		path, _ := chain.Proof(entries(int(want.Now.Size)), int(want.Old.Size))
		return put(goes(want, path...))
	default:
		return put(gives(one()))
	}
}

// pool are heads, most of which the log signed.
func pool() []head.Head {
	var l []head.Head
	for size := range 12 {
		l = append(l, grown(size), grown(size), signed(uint64(size), 1))
	}
	return append(l, signed(3, 2), signed(5, 9), again(grown(3)), forged(2, 1), forged(5, 1), forged(5, 2))
}

func TestAsItsTwin(t *testing.T) {
	heads := pool()
	for seed := range int64(24) {
		r := rand.New(rand.NewSource(seed))
		c := node.Config{
			Public: public, Room: 2 + r.Intn(14), Many: 2 + r.Intn(8), Seed: r.Uint64(),
			Limit: 5 + r.Intn(30), Hold: 1 + r.Intn(4), Base: 1 + r.Intn(3), Budget: 1 + r.Intn(4),
		}
		c.Me, c.Fan, c.Most = r.Intn(c.Many), 1+r.Intn(c.Many), c.Base+r.Intn(6)
		// Some logs are compacted now and then.
		size := 2 + 2*(300+r.Intn(2)*2000)
		d := blank(t, size)
		n := opened(t, d, c)
		w := &twin{c: c, disk: blank(t, size)}
		w.open(t)
		for step := range 250 {
			name := "seed " + strconv.FormatInt(seed, 10) + ", step " + strconv.Itoa(step)
			switch r.Intn(60) {
			case 0:
				front := make([]byte, r.Intn(5))
				r.Read(front)
				d.Crash(front)
				w.disk.Crash(front)
				n = opened(t, d, c)
				w.open(t)
			case 1:
				after := r.Intn(100)
				d.Fail(after)
				w.disk.Fail(after)
			case 2, 3, 4, 5, 6, 7, 8, 9, 10, 11, 12, 13:
				expectOuts(t, name, n.Tick(), w.tick())
			default:
				from := r.Intn(c.Many + 1)
				if r.Intn(5) == 0 {
					from = node.Log
				}
				b := drawn(r, heads, w)
				expectOuts(t, name, n.Handle(from, b), w.handle(from, b))
			}
			w.expect(t, n)
			if t.Failed() {
				t.Fatal(name)
			}
		}
	}
}
