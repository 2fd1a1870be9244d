package gossip_test

import (
	"math"
	"math/rand"
	"slices"
	"testing"

	"assayer/api"
	"assayer/dice"
	"assayer/gossip"
)

// made is one that may be.
func made(t *testing.T, me, many, fan int, seed uint64) *gossip.Gossip {
	t.Helper()
	g, err := gossip.New(me, many, fan, seed)
	if err != api.OK || g == nil {
		t.Fatalf("New of %d, %d, %d: %v, error %d", me, many, fan, g, err)
	}
	return g
}

// id is one that is told apart from others by its number.
func id(n int) api.Hash { return api.Hash{byte(n >> 8), byte(n)} }

// upTo is the numbers from 0 on, so many.
func upTo(n int) []int {
	var row []int
	for i := range n {
		row = append(row, i)
	}
	return row
}

// expectRow holds those who are told against those who should be, in their order.
func expectRow(t *testing.T, what string, got []int, want ...int) {
	t.Helper()
	if !slices.Equal(got, want) {
		t.Fatalf("%s: %d, not %d", what, got, want)
	}
}

func expectSeen(t *testing.T, g *gossip.Gossip, id api.Hash, want bool) {
	t.Helper()
	if got := g.Seen(id); got != want {
		t.Fatalf("Seen of %x: %v", id, got)
	}
}

// expectNew lets New make one, or not.
func expectNew(t *testing.T, me, many, fan int, want api.Errno) {
	t.Helper()
	g, err := gossip.New(me, many, fan, 1)
	if err != want || (g == nil) != (want != api.OK) {
		t.Fatalf("New of %d, %d, %d: %v, error %d, not %d", me, many, fan, g, err, want)
	}
}

// twin tells whom one tells by the document's words, in plain rows.
type twin struct {
	me, many, fan int
	dice          *dice.Dice
	told          []api.Hash
}

func newTwin(me, many, fan int, seed uint64) *twin {
	return &twin{me: me, many: many, fan: fan, dice: dice.New(seed)}
}

// others goes through a row from its end on, and keeps whom nobody ahead is.
func (w *twin) others(row []int) []int {
	out := []int{}
	for at := len(row) - 1; at >= 0; at-- {
		x := row[at]
		if x < 0 || x > w.many-1 || x == w.me || slices.Index(row, x) < at {
			continue
		}
		out = append([]int{x}, out...)
	}
	return out
}

func (w *twin) round(open []int) []int { return w.dice.Pick(w.others(open), w.fan) }

func (w *twin) flood(id api.Hash, open []int, from int) []int {
	if w.seen(id) {
		return nil
	}
	w.told = append(w.told, id)
	return slices.DeleteFunc(w.others(open), func(x int) bool { return x == from })
}

func (w *twin) seen(id api.Hash) bool { return slices.Contains(w.told, id) }

// strangers are numbers of whom nobody is, of so many.
func strangers(many int) []int {
	return []int{-1, many, many + 1, -2, 64, 65, 1 << 31, 1 << 32, 1<<32 + 1, -1 << 32, math.MinInt, math.MaxInt}
}

// drawnRow is a row of numbers, some of which are nobody's, and some of which come twice.
func drawnRow(r *rand.Rand, many int) []int {
	var row []int
	for range r.Intn(2*many + 3) {
		row = append(row, r.Intn(many+6)-3)
	}
	return row
}

// P21.1

func TestNewOfEachThatMayBe(t *testing.T) {
	for many := -2; many <= 67; many++ {
		for me := -2; me <= 67; me++ {
			for fan := -2; fan <= 67; fan++ {
				want := api.OK
				if many < 1 || many > 64 || me < 0 || me >= many || fan < 1 || fan > many {
					want = api.ErrArg
				}
				expectNew(t, me, many, fan, want)
			}
		}
	}
}

func TestNewOfNumbersFarOff(t *testing.T) {
	for _, n := range []int{math.MinInt, -1 << 32, 1 << 31, 1 << 32, 1<<32 + 3, math.MaxInt} {
		expectNew(t, 1, n, 2, api.ErrArg)
		expectNew(t, n, 5, 2, api.ErrArg)
		expectNew(t, 1, 5, n, api.ErrArg)
		expectNew(t, n, n, n, api.ErrArg)
		expectNew(t, 0, n, n, api.ErrArg)
	}
}

func TestNewOfEachSeed(t *testing.T) {
	for _, seed := range []uint64{0, 1, 1 << 63, math.MaxUint64} {
		g := made(t, 0, 3, 2, seed)
		expectRow(t, "Round", g.Round([]int{1, 2}), dice.New(seed).Pick([]int{1, 2}, 2)...)
	}
}

func TestNewHasToldNothingOn(t *testing.T) {
	g := made(t, 0, 3, 2, 5)
	for n := range 300 {
		expectSeen(t, g, id(n), false)
	}
	expectSeen(t, g, api.Hash{}, false)
}

// Of each row it tells others alone, in each way.
func TestOthersOfARow(t *testing.T) {
	for _, c := range []struct {
		name     string
		me, many int
		open     []int
		want     []int
	}{
		{"nobody", 0, 5, nil, nil},
		{"an empty row", 0, 5, []int{}, nil},
		{"all", 2, 5, []int{0, 1, 2, 3, 4}, []int{0, 1, 3, 4}},
		{"all, falling", 2, 5, []int{4, 3, 2, 1, 0}, []int{4, 3, 1, 0}},
		{"itself", 2, 5, []int{2}, nil},
		{"itself again and again", 2, 5, []int{2, 2, 1, 2}, []int{1}},
		{"the first one", 1, 5, []int{0}, []int{0}},
		{"the last one", 1, 5, []int{4}, []int{4}},
		{"one too many", 1, 5, []int{5}, nil},
		{"one below the first", 1, 5, []int{-1}, nil},
		{"those who are none among others", 1, 5, []int{5, 3, -1, 0, 63, 4, -3, 64}, []int{3, 0, 4}},
		{"some twice", 1, 5, []int{3, 0, 3, 0, 0, 4, 3}, []int{3, 0, 4}},
		{"strangers alone", 1, 5, strangers(5), nil},
		{"the only one", 0, 1, []int{0, 1, -1, 0}, nil},
		{"the last one of all", 0, 64, []int{63, 64, 0, 1}, []int{63, 1}},
		{"the first one of all", 63, 64, []int{63, 62, 0, 64}, []int{62, 0}},
	} {
		g := made(t, c.me, c.many, c.many, 7)
		expectRow(t, "Flood of "+c.name, g.Flood(id(1), c.open, -1), c.want...)
		expectRow(t, "Round of "+c.name, g.Round(c.open), dice.New(7).Pick(c.want, c.many)...)
	}
}

func TestOthersOfEachNumber(t *testing.T) {
	for many := 1; many <= 64; many++ {
		for me := range many {
			g := made(t, me, many, 1, 0)
			want := slices.DeleteFunc(upTo(many), func(x int) bool { return x == me })
			expectRow(t, "Flood of all", g.Flood(id(1), upTo(many+3), -1), want...)
			expectRow(t, "Flood of strangers", g.Flood(id(2), strangers(many), -1), slices.DeleteFunc(strangers(many), func(x int) bool { return x < 0 || x >= many })...)
		}
	}
}

// P21.2

func TestRoundIsAsDrawn(t *testing.T) {
	// The first five draws of 0, by their rests by 5, 4, 3 and 2: 0, 0, 1, 0, and the last one without a draw.
	g := made(t, 0, 6, 5, 0)
	expectRow(t, "Round", g.Round([]int{1, 2, 3, 4, 5}), 1, 2, 4, 3, 5)
	// The fifth draw of 0 is 1961750202426094747: its rest by 5 is 2.
	g = made(t, 0, 6, 4, 0)
	expectRow(t, "Round", g.Round([]int{0, 1, 2, 3, 4, 5}), 1, 2, 4, 3)
	if got := g.Round([]int{1, 2, 3, 4, 5}); len(got) != 4 || got[0] != 3 {
		t.Errorf("Round behind four draws: %d", got)
	}
}

func TestRoundOfEachFan(t *testing.T) {
	for fan := 1; fan <= 8; fan++ {
		g, d := made(t, 3, 8, fan, 99), dice.New(99)
		for range 20 {
			want := d.Pick([]int{0, 1, 2, 4, 5, 6, 7}, fan)
			if len(want) != min(fan, 7) {
				t.Fatalf("a fan of %d picks %d", fan, want)
			}
			expectRow(t, "Round", g.Round(upTo(8)), want...)
		}
	}
}

// Whoever isn't among others takes nobody's place.
func TestRoundDrawsAmongOthersAlone(t *testing.T) {
	g, d := made(t, 1, 4, 2, 3), dice.New(3)
	for range 20 {
		expectRow(t, "Round", g.Round([]int{1, 9, 3, -1, 1, 3, 0, 4, 2, 0, 1}), d.Pick([]int{3, 0, 2}, 2)...)
	}
}

// Of one other, or none, nothing is drawn, so that the next draws are the same.
func TestRoundOfFewDrawsNothing(t *testing.T) {
	g, d := made(t, 1, 6, 3, 12), dice.New(12)
	for _, open := range [][]int{nil, {}, {1}, {1, 1}, {6, -1}, strangers(6)} {
		expectRow(t, "Round of nobody", g.Round(open))
	}
	for _, open := range [][]int{{2}, {2, 2}, {1, 2}, {9, 2, -1}} {
		expectRow(t, "Round of one", g.Round(open), 2)
	}
	expectRow(t, "Round of five", g.Round(upTo(6)), d.Pick([]int{0, 2, 3, 4, 5}, 3)...)
}

func TestRoundTellsNothingOn(t *testing.T) {
	g := made(t, 1, 6, 3, 12)
	for range 10 {
		g.Round(upTo(6))
	}
	expectSeen(t, g, api.Hash{}, false)
	expectRow(t, "Flood behind Round", g.Flood(api.Hash{}, upTo(6), -1), 0, 2, 3, 4, 5)
}

// A Flood tells all, whatever the fan is, and draws nothing.
func TestFloodDrawsNothing(t *testing.T) {
	for fan := 1; fan <= 6; fan++ {
		g, d := made(t, 1, 6, fan, 40), dice.New(40)
		for n := range 30 {
			expectRow(t, "Flood", g.Flood(id(n), []int{5, 0, 1, 3}, 3), 5, 0)
			expectRow(t, "Flood again", g.Flood(id(n), []int{5, 0, 1, 3}, 3))
			expectRow(t, "Round", g.Round(upTo(6)), d.Pick([]int{0, 2, 3, 4, 5}, fan)...)
		}
	}
}

func TestFloodButFrom(t *testing.T) {
	for _, c := range []struct {
		name string
		open []int
		from int
		want []int
	}{
		{"the first one", []int{0, 1, 3, 4}, 0, []int{1, 3, 4}},
		{"the last one", []int{0, 1, 3, 4}, 4, []int{0, 1, 3}},
		{"one between", []int{4, 3, 1, 0}, 3, []int{4, 1, 0}},
		{"one who is there twice", []int{3, 0, 3, 1, 3}, 3, []int{0, 1}},
		{"the only one", []int{3}, 3, nil},
		{"one who isn't there", []int{0, 1}, 4, []int{0, 1}},
		{"itself", []int{0, 2, 1}, 2, []int{0, 1}},
		{"itself, who isn't there", []int{0, 1}, 2, []int{0, 1}},
		{"nobody", []int{0, 2, 1}, -1, []int{0, 1}},
		{"one too many", []int{0, 5, 1}, 5, []int{0, 1}},
		{"the log", []int{0, 63, 1}, 63, []int{0, 1}},
		{"the least number", []int{0, 1}, math.MinInt, []int{0, 1}},
		{"the greatest number", []int{0, 1}, math.MaxInt, []int{0, 1}},
	} {
		g := made(t, 2, 5, 1, 1)
		expectRow(t, "Flood but "+c.name, g.Flood(id(1), c.open, c.from), c.want...)
	}
}

// Who was left out once is told of other things.
func TestFloodLeavesOutOnce(t *testing.T) {
	g := made(t, 2, 5, 5, 1)
	expectRow(t, "Flood but 3", g.Flood(id(1), upTo(5), 3), 0, 1, 4)
	expectRow(t, "Flood but 0", g.Flood(id(2), upTo(5), 0), 1, 3, 4)
	expectRow(t, "Round", g.Round(upTo(5)), dice.New(1).Pick([]int{0, 1, 3, 4}, 5)...)
}

// What is told on is told on, though there is nobody who is told.
func TestFloodOfNobodyCounts(t *testing.T) {
	for _, open := range [][]int{nil, {}, {2}, {4}, {2, 4}, strangers(5)} {
		g := made(t, 2, 5, 1, 1)
		expectRow(t, "Flood of nobody", g.Flood(id(1), open, 4))
		expectSeen(t, g, id(1), true)
		expectRow(t, "Flood again", g.Flood(id(1), upTo(5), -1))
	}
}

func TestSeenIsOfFlood(t *testing.T) {
	g := made(t, 0, 3, 1, 1)
	for n := range 300 {
		expectSeen(t, g, id(n), false)
		expectSeen(t, g, id(n), false)
		expectRow(t, "Flood", g.Flood(id(n), upTo(3), -1), 1, 2)
		expectSeen(t, g, id(n), true)
		expectSeen(t, g, id(n), true)
		expectSeen(t, g, id(n+1), false)
	}
	for n := range 300 {
		expectSeen(t, g, id(n), true)
	}
}

// Ids that differ in one bit alone are two.
func TestEachBitOfAnIdCounts(t *testing.T) {
	for at := range 32 {
		for bit := range 8 {
			g := made(t, 0, 3, 1, 1)
			a := api.Hash{7, 7, 7}
			b := a
			b[at] ^= 1 << bit
			expectRow(t, "Flood of one", g.Flood(a, upTo(3), -1), 1, 2)
			expectSeen(t, g, b, false)
			expectRow(t, "Flood of another one", g.Flood(b, upTo(3), -1), 1, 2)
			expectSeen(t, g, a, true)
		}
	}
}

func TestAnIdOfNoughtsIsOne(t *testing.T) {
	g := made(t, 0, 3, 1, 1)
	expectRow(t, "Flood", g.Flood(api.Hash{}, upTo(3), -1), 1, 2)
	expectSeen(t, g, api.Hash{}, true)
	expectRow(t, "Flood again", g.Flood(api.Hash{}, upTo(3), -1))
}

func TestNilTellsNobody(t *testing.T) {
	var g *gossip.Gossip
	for _, open := range [][]int{nil, {}, {0}, {0, 1, 2}, strangers(3)} {
		expectRow(t, "Round of nil", g.Round(open))
		expectRow(t, "Flood of nil", g.Flood(id(1), open, -1))
		expectSeen(t, g, id(1), false)
		expectSeen(t, g, api.Hash{}, false)
	}
}

// Rule 1: a Gossip that New didn't make answers something as well.
func TestGossipThatNewDidntMake(t *testing.T) {
	var g gossip.Gossip
	for range 2 {
		g.Round([]int{0, 1, 2})
		g.Flood(id(1), []int{0, 1, 2}, 1)
		g.Seen(id(1))
	}
}

// Rule 3: what is handed in is not changed and not kept, and what is answered is new memory.
func TestAnswersAreNewMemory(t *testing.T) {
	for seed := range uint64(20) {
		backing := []int{1, 2, 3, 4, 5, 6, 7, 8}
		g := made(t, 0, 9, 9, seed)
		round, flood := g.Round(backing[:5]), g.Flood(id(1), backing[:5], -1)
		expectRow(t, "what was handed in", backing, 1, 2, 3, 4, 5, 6, 7, 8)
		for _, got := range [][]int{round, flood} {
			_ = append(got, 99)
			clear(got[:cap(got)])
		}
		expectRow(t, "what was handed in, behind a change of the answers", backing, 1, 2, 3, 4, 5, 6, 7, 8)
		round, flood = g.Round(backing[:5]), g.Flood(id(2), backing[:5], -1)
		wantRound := slices.Clone(round)
		clear(backing)
		expectRow(t, "Round, behind a change of what was handed in", round, wantRound...)
		expectRow(t, "Flood, behind a change of what was handed in", flood, 1, 2, 3, 4, 5)
		expectRow(t, "Flood of others, behind it", g.Flood(id(3), []int{6, 7}, -1), 6, 7)
	}
}

// By the document's words, whatever comes behind whatever.
func TestByTheDocumentsWords(t *testing.T) {
	r := rand.New(rand.NewSource(21))
	for range 300 {
		many := 1 + r.Intn(64)
		if r.Intn(2) == 0 {
			many = 1 + r.Intn(6)
		}
		me, fan, seed := r.Intn(many), 1+r.Intn(many), r.Uint64()
		g, w := made(t, me, many, fan, seed), newTwin(me, many, fan, seed)
		for range 60 {
			open, name := drawnRow(r, many), id(r.Intn(40))
			switch r.Intn(3) {
			case 0:
				expectRow(t, "Round", g.Round(open), w.round(open)...)
			case 1:
				from := r.Intn(many+4) - 2
				expectRow(t, "Flood", g.Flood(name, open, from), w.flood(name, open, from)...)
			default:
				expectSeen(t, g, name, w.seen(name))
			}
		}
	}
}

// P21.3

// It never tells itself, nor anybody twice, nor somebody who isn't there; of a Flood it never tells who told it.
func TestItNeverTellsItself(t *testing.T) {
	r := rand.New(rand.NewSource(22))
	for many := 1; many <= 64; many++ {
		me := r.Intn(many)
		g := made(t, me, many, 1+r.Intn(many), r.Uint64())
		for n := range 50 {
			open, from := drawnRow(r, many), r.Intn(many)
			round, flood := g.Round(open), g.Flood(id(n), open, from)
			for _, told := range [][]int{round, flood} {
				slices.Sort(told)
				if slices.Contains(told, me) || len(slices.Compact(slices.Clone(told))) != len(told) {
					t.Fatalf("%d of %d tells %d of %d", me, many, told, open)
				}
				for _, peer := range told {
					if peer < 0 || peer >= many || !slices.Contains(open, peer) {
						t.Fatalf("%d of %d tells %d of %d", me, many, told, open)
					}
				}
			}
			if slices.Contains(flood, from) {
				t.Fatalf("%d of %d tells %d, who told it", me, many, from)
			}
		}
	}
}

// The chapter's example.
func TestFloodTwice(t *testing.T) {
	g := made(t, 0, 4, 2, 1)
	expectRow(t, "Flood", g.Flood(id(1), []int{1, 2, 3}, -1), 1, 2, 3)
	expectRow(t, "Flood again", g.Flood(id(1), []int{1, 2, 3}, -1))
}

// What was told on is told on no more, to nobody, by whoever it comes, however much comes between.
func TestToldOnOnce(t *testing.T) {
	const many = 500
	g := made(t, 0, 5, 2, 1)
	for n := range many {
		expectRow(t, "Flood", g.Flood(id(n), []int{1, 2}, 1), 2)
	}
	for _, open := range [][]int{nil, {1, 2}, {3, 4}, upTo(5)} {
		for n := range many {
			for _, from := range []int{-1, 1, 2} {
				expectRow(t, "Flood again", g.Flood(id(n), open, from))
			}
			expectSeen(t, g, id(n), true)
		}
	}
	expectRow(t, "Flood of a new one", g.Flood(id(many), []int{1, 2}, 1), 2)
}

// Rule 4: the same calls have the same answers, and of two each has told on its own.
func TestGossipsAreApart(t *testing.T) {
	a, b, c := made(t, 0, 9, 4, 77), made(t, 0, 9, 4, 77), made(t, 1, 5, 2, 77)
	for n := range 50 {
		round := a.Round(upTo(9))
		c.Round(upTo(5))
		expectRow(t, "Round of the second", b.Round(upTo(9)), round...)
		a.Flood(id(n), upTo(9), -1)
		expectSeen(t, b, id(n), false)
		expectRow(t, "Flood of the second", b.Flood(id(n), upTo(9), 8), 1, 2, 3, 4, 5, 6, 7)
		expectSeen(t, c, id(n), false)
	}
}

// Of another seed others are drawn, before long.
func TestAnotherSeedDrawsOthers(t *testing.T) {
	rounds := func(seed uint64) (out []int) {
		g := made(t, 0, 64, 8, seed)
		for range 4 {
			out = append(out, g.Round(upTo(64))...)
		}
		return out
	}
	first := rounds(0)
	for seed := uint64(1); seed < 200; seed++ {
		if slices.Equal(rounds(seed), first) {
			t.Fatalf("%d draws as 0", seed)
		}
	}
}
