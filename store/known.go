package store

import (
	"bytes"
	"maps"
	"slices"

	"assayer/api"
	"assayer/fraud"
	"assayer/head"
	"assayer/heads"
	"assayer/octet"
	"assayer/score"
)

// The kinds of records.
const (
	headKind = 1 + iota
	linkKind
	fraudKind
	doubtKind
	peerKind
)

const (
	kindSize   = 1 // bytes of a record's kind
	sizeSize   = 8 // of a key's size
	peerSize   = 1 // of a peer's number
	pointsSize = 2
	leftSize   = 2
	maxDoubts  = 32
)

// Both are named Table, by which they can't be embedded side by side.
type (
	headTable  = heads.Table
	scoreTable = score.Table
)

// fraudTable is proofs of fraud, by their names.
type fraudTable map[api.Hash]fraud.Proof

// doubtTable is records of doubt, as they came.
type doubtTable struct{ row []fraud.Challenge }

// known is all that is known.
type known struct {
	*headTable
	*scoreTable
	fraudTable
	doubtTable
}

// addFraud lets a proof be known, signed or not.
func (t fraudTable) addFraud(p fraud.Proof) api.Errno {
	id := fraud.Id(p)
	if _, ok := t[id]; ok {
		return api.ErrTwice
	}
	if len(t) >= api.MaxFrauds {
		return api.ErrFull
	}
	t[id] = p
	return api.OK
}

// Frauds are all proofs, by their names, rising.
func (t fraudTable) Frauds() []fraud.Proof {
	var l []fraud.Proof
	for _, id := range slices.SortedFunc(maps.Keys(t), compare) {
		l = append(l, t[id])
	}
	return l
}

// addDoubt lets a record of doubt be known, signed or not.
func (t *doubtTable) addDoubt(c fraud.Challenge) api.Errno {
	if slices.ContainsFunc(t.row, func(o fraud.Challenge) bool { return alike(c, o) }) {
		return api.ErrTwice
	}
	if len(t.row) >= maxDoubts {
		return api.ErrFull
	}
	t.row = append(t.row, c)
	return api.OK
}

// Doubts are all records of doubt.
func (t *doubtTable) Doubts() []fraud.Challenge { return slices.Clone(t.row) }

// peers is how all peers behave, from 0 on.
func (k *known) peers() []score.Peer {
	var l []score.Peer
	for peer := range api.MaxNodes {
		p, ok := k.Peer(peer)
		if !ok {
			break
		}
		l = append(l, p)
	}
	return l
}

// records is the records of all that is known.
func (k *known) records() [][]byte {
	var rows [][]byte
	keys := k.Keys()
	for _, key := range keys {
		h, _ := k.Get(key)
		rows = append(rows, headRecord(h))
	}
	for _, old := range keys {
		for _, now := range keys {
			if k.Linked(old, now) {
				rows = append(rows, linkRecord(old, now))
			}
		}
	}
	for _, p := range k.Frauds() {
		rows = append(rows, fraudRecord(p))
	}
	for _, c := range k.Doubts() {
		rows = append(rows, doubtRecord(c))
	}
	for peer, p := range k.peers() {
		if p != (score.Peer{}) {
			rows = append(rows, peerRecord(peer, p))
		}
	}
	return rows
}

// do does a record: ErrForm, if it is none. Other errors count for nothing: what the
// log was compacted for stands in it twice.
func (k *known) do(b []byte) api.Errno {
	if len(b) < kindSize {
		return api.ErrForm
	}
	var err api.Errno
	switch rest := b[kindSize:]; b[0] {
	case headKind:
		var h head.Head
		if h, err = head.Get(rest); err == api.OK {
			k.Put(h)
		}
	case linkKind:
		var old, now api.Key
		if old, now, err = getLink(rest); err == api.OK {
			k.Link(old, now)
		}
	case fraudKind:
		var p fraud.Proof
		if p, err = fraud.Get(rest); err == api.OK {
			k.addFraud(p)
		}
	case doubtKind:
		var c fraud.Challenge
		if c, err = fraud.GetDoubt(rest); err == api.OK {
			k.addDoubt(c)
		}
	case peerKind:
		var peer int
		var p score.Peer
		if peer, p, err = getPeer(rest); err == api.OK {
			k.Set(peer, p)
		}
	default:
		err = api.ErrForm
	}
	if err != api.OK {
		return api.ErrForm
	}
	return api.OK
}

// record is a record of a kind.
func record(kind uint64, b []byte) []byte {
	w := octet.NewWriter()
	w.Num(kind, kindSize)
	w.Raw(b)
	return w.Out()
}

func headRecord(h head.Head) []byte { return record(headKind, head.Put(h)) }

func linkRecord(old, now api.Key) []byte {
	w := octet.NewWriter()
	putKey(w, old)
	putKey(w, now)
	return record(linkKind, w.Out())
}

func fraudRecord(p fraud.Proof) []byte { return record(fraudKind, fraud.Put(p)) }

func doubtRecord(c fraud.Challenge) []byte { return record(doubtKind, fraud.PutDoubt(c)) }

func peerRecord(peer int, p score.Peer) []byte {
	w := octet.NewWriter()
	w.Num(uint64(peer), peerSize)
	w.Num(uint64(p.Points), pointsSize)
	w.Num(uint64(p.Left), leftSize)
	return record(peerKind, w.Out())
}

// getLink is the keys of a link's bytes.
func getLink(b []byte) (old, now api.Key, err api.Errno) {
	r := octet.NewReader(b)
	old, now = getKey(r), getKey(r)
	return old, now, r.End()
}

// getPeer is the peer of its bytes, and how it behaves.
func getPeer(b []byte) (int, score.Peer, api.Errno) {
	r := octet.NewReader(b)
	peer := int(r.Num(peerSize))
	p := score.Peer{Points: int(r.Num(pointsSize)), Left: int(r.Num(leftSize))}
	return peer, p, r.End()
}

func putKey(w *octet.Writer, k api.Key) {
	w.Num(k.Size, sizeSize)
	w.Hash(k.Root)
}

func getKey(r *octet.Reader) api.Key {
	var k api.Key
	k.Size = r.Num(sizeSize)
	k.Root = r.Hash()
	return k
}

// alike tells whether two records of doubt are of the same two keys.
func alike(a, b fraud.Challenge) bool {
	return a.Old.Key == b.Old.Key && a.Now.Key == b.Now.Key
}

// compare is below 0 if the first name is the lower one, above 0 if it is the greater.
func compare(a, b api.Hash) int { return bytes.Compare(a[:], b[:]) }
