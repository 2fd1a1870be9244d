package score_test

import (
	"math"
	"math/rand"
	"slices"
	"testing"

	"assayer/api"
	"assayer/score"
)

// made is a table that may be.
func made(t *testing.T, many, limit, hold int) *score.Table {
	t.Helper()
	s, err := score.New(many, limit, hold)
	if err != api.OK || s == nil {
		t.Fatalf("%d peers, limit %d, hold %d: %v, error %d", many, limit, hold, s, err)
	}
	return s
}

// laid lets a peer be so, which goes.
func laid(t *testing.T, s *score.Table, peer int, p score.Peer) {
	t.Helper()
	if err := s.Set(peer, p); err != api.OK {
		t.Fatalf("Set of %d to %v: error %d", peer, p, err)
	}
}

// expectPeer asks for a peer that there is.
func expectPeer(t *testing.T, s *score.Table, peer int, want score.Peer) {
	t.Helper()
	if got, ok := s.Peer(peer); !ok || got != want {
		t.Errorf("peer %d: %v, %v, want %v", peer, got, ok, want)
	}
	if got := s.Away(peer); got != (want.Left > 0) {
		t.Errorf("peer %d of %v: away is %v", peer, want, got)
	}
}

// expectNone asks for a peer that there isn't, in each way.
func expectNone(t *testing.T, s *score.Table, peer int) {
	t.Helper()
	if got, ok := s.Peer(peer); ok || got != (score.Peer{}) {
		t.Errorf("peer %d, which there isn't: %v, %v", peer, got, ok)
	}
	if s.Away(peer) {
		t.Errorf("peer %d, which there isn't, is away", peer)
	}
	for _, points := range []int{0, 1, 1000, math.MaxInt} {
		if s.Blame(peer, points) {
			t.Errorf("Blame of %d, which there isn't, of %d", peer, points)
		}
	}
	if err := s.Set(peer, score.Peer{}); err != api.ErrArg {
		t.Errorf("Set of %d, which there isn't: error %d", peer, err)
	}
}

// expectRow holds peers that were told against those that should be.
func expectRow(t *testing.T, name string, got []int, want ...int) {
	t.Helper()
	if !slices.Equal(got, want) {
		t.Errorf("%s: %v, want %v", name, got, want)
	}
}

func expectBlame(t *testing.T, s *score.Table, peer, points int, want bool) {
	t.Helper()
	if got := s.Blame(peer, points); got != want {
		t.Errorf("Blame of %d of %d: %v, want %v", peer, points, got, want)
	}
}

func expectSetRefused(t *testing.T, s *score.Table, peer int, p score.Peer) {
	t.Helper()
	if err := s.Set(peer, p); err != api.ErrArg {
		t.Errorf("Set of %d to %v: error %d, want %d", peer, p, err, api.ErrArg)
	}
}

// upTo is the numbers from 0 on, so many.
func upTo(n int) []int {
	var row []int
	for i := range n {
		row = append(row, i)
	}
	return row
}

// P13.1

func TestNewOfNumbersThatMayNotBe(t *testing.T) {
	few := []int{0, -1, -64, math.MinInt}
	rows := [][3]int{}
	for _, n := range append(few, 65, 66, 128, 1000, 1<<32+1, math.MaxInt) {
		rows = append(rows, [3]int{n, 10, 5})
	}
	for _, n := range append(few, 1001, 1002, 1<<32+1, math.MaxInt) {
		rows = append(rows, [3]int{3, n, 5}, [3]int{3, 10, n})
	}
	rows = append(rows, [3]int{0, 0, 0}, [3]int{65, 1001, 1001}, [3]int{10, 65, 0})
	for _, row := range rows {
		if s, err := score.New(row[0], row[1], row[2]); s != nil || err != api.ErrArg {
			t.Errorf("New of %v: %v, error %d", row, s, err)
		}
	}
}

func TestNewOfEachNumberThatMayBe(t *testing.T) {
	for many := 1; many <= 64; many++ {
		s := made(t, many, 10, 5)
		for peer := range many {
			expectPeer(t, s, peer, score.Peer{})
		}
		expectRow(t, "Open", s.Open(), upTo(many)...)
		for _, peer := range []int{-1, many, many + 1, 64, 1 << 32, -1 << 32, math.MinInt, math.MaxInt} {
			expectNone(t, s, peer)
		}
		expectRow(t, "Open", s.Open(), upTo(many)...)
		expectRow(t, "Tick", s.Tick())
	}
	for n := 1; n <= 1000; n++ {
		s := made(t, 2, n, 7)
		laid(t, s, 0, score.Peer{Points: n - 1, Left: 7})
		expectSetRefused(t, s, 0, score.Peer{Points: n, Left: 7})
		expectPeer(t, s, 0, score.Peer{Points: n - 1, Left: 7})
		s = made(t, 2, 7, n)
		laid(t, s, 1, score.Peer{Points: 6, Left: n})
		expectSetRefused(t, s, 1, score.Peer{Points: 6, Left: n + 1})
		expectPeer(t, s, 1, score.Peer{Points: 6, Left: n})
	}
	made(t, 1, 1, 1)
	made(t, 64, 1000, 1000)
}

func TestSetOfEachThatMayBe(t *testing.T) {
	s := made(t, 3, 10, 5)
	for points := -3; points < 15; points++ {
		for left := -3; left < 10; left++ {
			was := score.Peer{Points: 4, Left: 2}
			laid(t, s, 1, was)
			p := score.Peer{Points: points, Left: left}
			if points >= 0 && points < 10 && left >= 0 && left <= 5 {
				laid(t, s, 1, p)
				was = p
			} else {
				expectSetRefused(t, s, 1, p)
			}
			expectPeer(t, s, 1, was)
			expectPeer(t, s, 0, score.Peer{})
			expectPeer(t, s, 2, score.Peer{})
		}
	}
}

func TestSetOfNumbersFarOff(t *testing.T) {
	s := made(t, 2, 10, 5)
	laid(t, s, 0, score.Peer{Points: 3, Left: 1})
	for _, n := range []int{math.MinInt, -1 << 32, 1 << 32, 1<<32 + 1, math.MaxInt} {
		expectSetRefused(t, s, 0, score.Peer{Points: n})
		expectSetRefused(t, s, 0, score.Peer{Left: n})
		expectSetRefused(t, s, 0, score.Peer{Points: n, Left: n})
	}
	expectPeer(t, s, 0, score.Peer{Points: 3, Left: 1})
}

// Who is set so is kept away, or let in, as if it had come to it by itself.
func TestSetCounts(t *testing.T) {
	s := made(t, 3, 10, 5)
	laid(t, s, 1, score.Peer{Points: 9, Left: 1})
	expectRow(t, "Open", s.Open(), 0, 2)
	expectBlame(t, s, 1, 1, false)
	expectRow(t, "Tick", s.Tick(), 1)
	expectBlame(t, s, 1, 1, true)
	laid(t, s, 1, score.Peer{Points: 8})
	expectRow(t, "Open", s.Open(), 0, 1, 2)
	expectRow(t, "Tick", s.Tick())
	expectBlame(t, s, 1, 1, false)
	expectPeer(t, s, 1, score.Peer{Points: 9})
}

func TestOpenIsRising(t *testing.T) {
	s := made(t, 64, 10, 5)
	r := rand.New(rand.NewSource(1))
	open := upTo(64)
	for _, peer := range r.Perm(64) {
		expectBlame(t, s, peer, 10, true)
		open = slices.DeleteFunc(open, func(p int) bool { return p == peer })
		expectRow(t, "Open", s.Open(), open...)
	}
	for _, peer := range r.Perm(64) {
		laid(t, s, peer, score.Peer{})
		open = append(open, peer)
		slices.Sort(open)
		expectRow(t, "Open", s.Open(), open...)
	}
}

func TestNilTable(t *testing.T) {
	var s *score.Table
	for _, peer := range []int{0, 1, -1, 63, math.MaxInt} {
		expectNone(t, s, peer)
	}
	expectSetRefused(t, s, 0, score.Peer{Points: 1, Left: 1})
	expectRow(t, "Open", s.Open())
	expectRow(t, "Tick", s.Tick())
}

// Rule 1: a Table that New didn't make answers something as well.
func TestTableThatNewDidntMake(t *testing.T) {
	var s score.Table
	s.Blame(0, 1)
	s.Away(0)
	s.Tick()
	s.Peer(0)
	s.Set(0, score.Peer{})
	s.Open()
}

// Rule 3: what is answered is new memory.
func TestAnswersAreNewMemory(t *testing.T) {
	s := made(t, 4, 10, 1)
	expectBlame(t, s, 1, 10, true)
	expectBlame(t, s, 2, 10, true)
	open := s.Open()
	clear(open)
	expectRow(t, "Open", s.Open(), 0, 3)
	in := s.Tick()
	expectRow(t, "Tick", in, 1, 2)
	clear(in)
	expectRow(t, "Open", s.Open(), 0, 1, 2, 3)
	p, _ := s.Peer(1)
	p.Points, p.Left = 0, 1
	expectPeer(t, s, 1, score.Peer{Points: 5})
}

// Rule 4: of two tables each has its own peers, and its own limit and hold.
func TestTablesAreApart(t *testing.T) {
	a, b := made(t, 2, 10, 3), made(t, 3, 20, 1)
	expectBlame(t, a, 1, 10, true)
	expectBlame(t, b, 1, 10, false)
	expectPeer(t, a, 1, score.Peer{Points: 5, Left: 3})
	expectPeer(t, b, 1, score.Peer{Points: 10})
	expectBlame(t, b, 0, 20, true)
	expectPeer(t, a, 0, score.Peer{})
	expectRow(t, "Tick", b.Tick(), 0)
	expectPeer(t, a, 1, score.Peer{Points: 5, Left: 3})
}

// P13.2

// The chapter's example.
func TestBlameAboveTheLimit(t *testing.T) {
	s := made(t, 1, 10, 7)
	expectBlame(t, s, 0, 12, true)
	expectPeer(t, s, 0, score.Peer{Points: 5, Left: 7})
}

func TestBlameFromEachNumberOfPoints(t *testing.T) {
	for limit := 1; limit <= 12; limit++ {
		for had := range limit {
			for points := 1; points < 30; points++ {
				s := made(t, 2, limit, 3)
				laid(t, s, 1, score.Peer{Points: had})
				want := score.Peer{Points: had + points}
				away := had+points >= limit
				if away {
					want = score.Peer{Points: limit / 2, Left: 3}
				}
				expectBlame(t, s, 1, points, away)
				expectPeer(t, s, 1, want)
				expectPeer(t, s, 0, score.Peer{})
			}
		}
	}
}

// Half of each limit is left, rounded down.
func TestHalfOfEachLimit(t *testing.T) {
	for limit := 1; limit <= 1000; limit++ {
		s := made(t, 1, limit, 1000)
		if limit > 1 {
			expectBlame(t, s, 0, limit-1, false)
			expectPeer(t, s, 0, score.Peer{Points: limit - 1})
		}
		expectBlame(t, s, 0, 1, true)
		half := 0
		for 2*(half+1) <= limit {
			half++
		}
		expectPeer(t, s, 0, score.Peer{Points: half, Left: 1000})
	}
}

func TestBlameOfTooFewPoints(t *testing.T) {
	s := made(t, 2, 10, 3)
	for _, had := range []int{0, 1, 9} {
		laid(t, s, 0, score.Peer{Points: had})
		for _, points := range []int{0, -1, -9, -10, -1000, math.MinInt, math.MinInt + 1} {
			expectBlame(t, s, 0, points, false)
			expectPeer(t, s, 0, score.Peer{Points: had})
		}
	}
}

// The most points that there are keep one away as any that come to the limit,
// though their sum with others is more than an int holds.
func TestBlameOfTheMostPoints(t *testing.T) {
	for _, limit := range []int{1, 2, 10, 999, 1000} {
		for _, had := range []int{0, limit / 2, limit - 1} {
			for _, points := range []int{1 << 32, 1 << 62, math.MaxInt - limit, math.MaxInt - 1, math.MaxInt} {
				s := made(t, 1, limit, 4)
				laid(t, s, 0, score.Peer{Points: had})
				expectBlame(t, s, 0, points, true)
				expectPeer(t, s, 0, score.Peer{Points: limit / 2, Left: 4})
			}
		}
	}
}

// Who is kept away gets no points, and is kept away no longer for it.
func TestBlameOfOneThatIsAway(t *testing.T) {
	s := made(t, 2, 10, 3)
	for left := 1; left <= 3; left++ {
		p := score.Peer{Points: 9, Left: left}
		laid(t, s, 0, p)
		for _, points := range []int{-1, 0, 1, 5, 10, 1000, math.MaxInt} {
			expectBlame(t, s, 0, points, false)
			expectPeer(t, s, 0, p)
		}
	}
}

func TestTickIsOfThoseAwayAlone(t *testing.T) {
	s := made(t, 6, 10, 5)
	laid(t, s, 0, score.Peer{Points: 9})
	laid(t, s, 1, score.Peer{Points: 8, Left: 3})
	laid(t, s, 3, score.Peer{Left: 1})
	laid(t, s, 4, score.Peer{Points: 7, Left: 2})
	laid(t, s, 5, score.Peer{Points: 6, Left: 1})
	for k, want := range [][]int{{3, 5}, {4}, {1}, nil, nil} {
		expectRow(t, "Tick", s.Tick(), want...)
		expectPeer(t, s, 0, score.Peer{Points: 9})
		expectPeer(t, s, 1, score.Peer{Points: 8, Left: max(2-k, 0)})
		expectPeer(t, s, 2, score.Peer{})
		expectPeer(t, s, 3, score.Peer{})
		expectPeer(t, s, 4, score.Peer{Points: 7, Left: max(1-k, 0)})
		expectPeer(t, s, 5, score.Peer{Points: 6})
	}
}

// Who is let in is told rising, in whatever order they were kept away.
func TestTickIsRising(t *testing.T) {
	r := rand.New(rand.NewSource(2))
	for range 20 {
		s := made(t, 64, 10, 1)
		away := r.Perm(64)[:1+r.Intn(64)]
		for _, peer := range away {
			expectBlame(t, s, peer, 10, true)
		}
		slices.Sort(away)
		expectRow(t, "Tick", s.Tick(), away...)
		expectRow(t, "Tick", s.Tick())
		expectRow(t, "Open", s.Open(), upTo(64)...)
	}
}

// P13.3

// Who is kept away is let in again behind hold ticks, no earlier and no later.
func TestLetInBehindHoldTicks(t *testing.T) {
	for _, hold := range []int{1, 2, 3, 7, 64, 255, 256, 999, 1000} {
		s := made(t, 3, 10, hold)
		for range 3 {
			laid(t, s, 2, score.Peer{Points: 9})
			expectBlame(t, s, 2, 1, true)
			for left := hold - 1; left > 0; left-- {
				expectRow(t, "Tick", s.Tick())
				expectPeer(t, s, 2, score.Peer{Points: 5, Left: left})
				expectRow(t, "Open", s.Open(), 0, 1)
			}
			expectRow(t, "Tick", s.Tick(), 2)
			expectPeer(t, s, 2, score.Peer{Points: 5})
			expectRow(t, "Open", s.Open(), 0, 1, 2)
		}
	}
}

// plain is how peers behave by the document's words, a peer at a place.
type plain struct {
	peers       []score.Peer
	limit, hold int
}

func (p *plain) is(peer int) bool { return peer >= 0 && peer < len(p.peers) }

func (p *plain) blame(peer, points int) bool {
	if !p.is(peer) || p.peers[peer].Left > 0 || points < 1 {
		return false
	}
	q := &p.peers[peer]
	for range points {
		q.Points++
		if q.Points == p.limit {
			q.Points, q.Left = p.limit/2, p.hold
			return true
		}
	}
	return false
}

func (p *plain) tick() []int {
	var in []int
	for peer := range p.peers {
		if q := &p.peers[peer]; q.Left > 0 {
			q.Left--
			if q.Left == 0 {
				in = append(in, peer)
			}
		}
	}
	return in
}

func (p *plain) set(peer int, to score.Peer) api.Errno {
	if !p.is(peer) || to.Points < 0 || to.Points >= p.limit || to.Left < 0 || to.Left > p.hold {
		return api.ErrArg
	}
	p.peers[peer] = to
	return api.OK
}

func (p *plain) open() []int {
	var open []int
	for peer, q := range p.peers {
		if q.Left == 0 {
			open = append(open, peer)
		}
	}
	return open
}

// step does one thing with a table and with a plain one, and holds their
// answers against each other.
func step(t *testing.T, r *rand.Rand, s *score.Table, p *plain) {
	t.Helper()
	peer := r.Intn(len(p.peers)+2) - 1
	switch x := r.Intn(20); {
	case x < 12:
		points := r.Intn(p.limit+p.limit/2+3) - 1
		if r.Intn(20) == 0 {
			points = []int{math.MinInt, math.MaxInt}[r.Intn(2)]
		}
		expectBlame(t, s, peer, points, p.blame(peer, points))
	case x < 18:
		expectRow(t, "Tick", s.Tick(), p.tick()...)
	default:
		to := score.Peer{Points: r.Intn(p.limit+2) - 1, Left: r.Intn(p.hold+3) - 1}
		if got, want := s.Set(peer, to), p.set(peer, to); got != want {
			t.Errorf("Set of %d to %v: error %d, want %d", peer, to, got, want)
		}
	}
}

func TestAllAgainstAPlainTable(t *testing.T) {
	for seed := range int64(80) {
		r := rand.New(rand.NewSource(seed))
		many, limit, hold := 1+r.Intn(64), 1+r.Intn(1000), 1+r.Intn(12)
		if seed%2 == 0 {
			many, limit = 1+r.Intn(4), 1+r.Intn(12)
		}
		s, p := made(t, many, limit, hold), &plain{make([]score.Peer, many), limit, hold}
		for range 300 {
			step(t, r, s, p)
			for peer, want := range p.peers {
				expectPeer(t, s, peer, want)
				if got, _ := s.Peer(peer); got.Points >= limit {
					t.Errorf("peer %d has %d points, the limit is %d", peer, got.Points, limit)
				}
			}
			expectRow(t, "Open", s.Open(), p.open()...)
			if t.Failed() {
				t.Fatalf("seed %d: %d peers, limit %d, hold %d", seed, many, limit, hold)
			}
		}
		for _, none := range []int{-1, many} {
			expectNone(t, s, none)
		}
	}
}
