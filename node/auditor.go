package node

import (
	"slices"

	"assayer/api"
	"assayer/chain"
	"assayer/dice"
	"assayer/digest"
	"assayer/fetch"
	"assayer/fraud"
	"assayer/gossip"
	"assayer/msg"
	"assayer/store"
)

// Points for which somebody is blamed.
const (
	noMessage = 3 // bytes that are no message
	noPath    = 3 // a path that proves nothing
	noSig     = 5 // a head, or a proof of fraud, that the log didn't sign
)

// How many are sent to one message, at most.
const (
	lackedHeads  = 4
	lackedProofs = 4
	pulledHeads  = 8
)

// nobody is who is left out, where nobody is.
const nobody = -1

// auditor is what an auditor has.
type auditor struct {
	*store.Store
	public api.Hash
	me     int
	asked  *fetch.Table
	dice   *dice.Dice // by which it waits for what is asked for
	others *gossip.Gossip
}

// deeds is what messages do, by their kinds.
func deeds() map[int]func(*auditor, int, msg.Msg) []Out {
	return map[int]func(*auditor, int, msg.Msg) []Out{
		msg.Tells:  (*auditor).compare,
		msg.Pulls:  (*auditor).give,
		msg.Gives:  (*auditor).take,
		msg.Proves: (*auditor).believe,
		msg.Goes:   (*auditor).link,
	}
}

// handle is what is sent to bytes that came.
func (a *auditor) handle(from int, b []byte) []Out {
	if a.Err() != api.OK || !a.hears(from) {
		return nil
	}
	m, err := msg.Get(b)
	if err != api.OK {
		a.blame(from, noMessage)
		return nil
	}
	deed, ok := deeds()[m.Kind]
	if !ok {
		return nil
	}
	return deed(a, from, m)
}

// tick is what is sent at a tick.
func (a *auditor) tick() []Out {
	if a.Err() != api.OK {
		return nil
	}
	a.Tick()
	var outs []Out
	now, over := a.asked.Tick(a.dice)
	for _, w := range now {
		outs = append(outs, send(msg.Msg{Kind: msg.Asks, Want: w}, Log)...)
	}
	for _, w := range over {
		a.doubt(w)
	}
	if a.Sync() != api.OK {
		return outs
	}
	return append(outs, a.round()...)
}

// hears tells whether what somebody sends counts.
func (a *auditor) hears(from int) bool {
	if from == Log {
		return true
	}
	p, ok := a.Peer(from)
	return ok && from != a.me && p.Left == 0
}

// compare does Tells: what the other one has it wants, and what the other one hasn't
// it gives.
func (a *auditor) compare(from int, m msg.Msg) []Out {
	if from == Log {
		return nil
	}
	var outs []Out
	keys := a.Keys()
	if wants := digest.Wants(keys, m.Digest); len(wants) > 0 {
		outs = send(msg.Msg{Kind: msg.Pulls, Keys: wants}, from)
	}
	outs = append(outs, a.heads(digest.Lacks(keys, m.Digest), lackedHeads, from)...)
	return append(outs, a.proofs(m.Digest, from)...)
}

// give does Pulls.
func (a *auditor) give(from int, m msg.Msg) []Out {
	if from == Log {
		return nil
	}
	return a.heads(m.Keys, pulledHeads, from)
}

// take does Gives: a head that is signed is held, and held against those of its size.
func (a *auditor) take(from int, m msg.Msg) []Out {
	switch a.Head(m.Head) {
	case api.ErrSig:
		a.blame(from, noSig)
		return nil
	case api.OK:
		a.Sync()
		a.askOn(m.Head.Key)
	}
	// Though there be no room for the head: it was signed.
	rival, ok := a.Rival(m.Head.Key)
	if !ok {
		return nil
	}
	p, _ := fraud.Make(m.Head, rival)
	return a.prove(p, nobody)
}

// believe does Proves, which it doesn't unless the proof stands by itself.
func (a *auditor) believe(from int, m msg.Msg) []Out {
	if fraud.Verify(a.public, m.Proof) != api.OK {
		a.blame(from, noSig)
		return nil
	}
	return a.prove(m.Proof, from)
}

// link does Goes, whoever sends it, if it was asked for.
func (a *auditor) link(from int, m msg.Msg) []Out {
	if !a.asked.Has(m.Want) {
		return nil
	}
	if chain.Verify(m.Want.Old, m.Want.Now, m.Path) != api.OK {
		a.blame(from, noPath)
		return nil
	}
	a.asked.Done(m.Want)
	// A head that was given up since has no links.
	a.Link(m.Want.Old, m.Want.Now)
	a.Sync()
	return nil
}

// blame gives somebody points; the log has none.
func (a *auditor) blame(who, points int) {
	if who != Log {
		a.Blame(who, points)
	}
	a.Sync()
}

// prove lets a proof be known, and tells it on, but for who is left out, once it is
// there for good.
func (a *auditor) prove(p fraud.Proof, out int) []Out {
	if a.Fraud(p) != api.OK || a.Sync() != api.OK {
		return nil
	}
	return send(msg.Msg{Kind: msg.Proves, Proof: p}, a.others.Flood(fraud.Id(p), a.Peers(), out)...)
}

// askOn lets it be asked for how a key goes on from and in its neighbours.
func (a *auditor) askOn(k api.Key) {
	doubts := a.Doubts()
	for _, w := range a.neighbours(k) {
		if !a.Linked(w.Old, w.Now) && !doubted(doubts, w) {
			a.asked.Start(w)
		}
	}
}

// neighbours are a key and each one of the next lower size, and of the next greater one.
func (a *auditor) neighbours(k api.Key) []fetch.Want {
	// All goes on from no entries.
	if k.Size == 0 {
		return nil
	}
	keys := a.Keys()
	var lower, greater uint64
	for _, o := range keys { // by rising sizes
		if o.Size < k.Size {
			lower = o.Size
		}
		if o.Size > k.Size && greater == 0 {
			greater = o.Size
		}
	}
	var pairs []fetch.Want
	for _, o := range keys {
		switch o.Size {
		case 0: // no neighbour, though lower or greater be 0, as there is none
		case lower:
			pairs = append(pairs, fetch.Want{Old: o, Now: k})
		case greater:
			pairs = append(pairs, fetch.Want{Old: k, Now: o})
		}
	}
	return pairs
}

// doubt records that nobody proved that a head goes on in another one.
func (a *auditor) doubt(w fetch.Want) {
	old, held := a.Get(w.Old)
	now, too := a.Get(w.Now)
	if !held || !too {
		return
	}
	c, _ := fraud.Doubt(old, now)
	a.Doubt(c)
}

// round tells some of the others what is known.
func (a *auditor) round() []Out {
	d := digest.Make(a.Keys(), ids(a.Frauds()))
	return send(msg.Msg{Kind: msg.Tells, Digest: d}, a.others.Round(a.Peers())...)
}

// heads sends the first so many of these keys that are held.
func (a *auditor) heads(keys []api.Key, most, to int) []Out {
	var outs []Out
	for _, k := range keys {
		if len(outs) == most {
			break
		}
		if h, ok := a.Get(k); ok {
			outs = append(outs, send(msg.Msg{Kind: msg.Gives, Head: h}, to)...)
		}
	}
	return outs
}

// proofs sends the first proofs that a digest hasn't.
func (a *auditor) proofs(d digest.Digest, to int) []Out {
	var outs []Out
	proofs := a.Frauds()
	misses := digest.Misses(ids(proofs), d)
	for _, p := range proofs {
		if len(outs) == lackedProofs {
			break
		}
		if slices.Contains(misses, fraud.Id(p)) {
			outs = append(outs, send(msg.Msg{Kind: msg.Proves, Proof: p}, to)...)
		}
	}
	return outs
}

// send is a message for each of some.
func send(m msg.Msg, to ...int) []Out {
	var outs []Out
	for _, who := range to {
		// Put for each anew, so that no two share bytes.
		if b, err := msg.Put(m); err == api.OK {
			outs = append(outs, Out{To: who, Data: b})
		}
	}
	return outs
}

// ids are the names of proofs.
func ids(proofs []fraud.Proof) []api.Hash {
	var l []api.Hash
	for _, p := range proofs {
		l = append(l, fraud.Id(p))
	}
	return l
}

// doubted tells whether a record of doubt is of just these two keys.
func doubted(doubts []fraud.Challenge, w fetch.Want) bool {
	return slices.ContainsFunc(doubts, func(c fraud.Challenge) bool {
		return c.Old.Key == w.Old && c.Now.Key == w.Now
	})
}
