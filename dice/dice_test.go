package dice_test

import (
	"math"
	"math/big"
	"math/rand"
	"slices"
	"testing"

	"assayer/dice"
)

// drawn are the next numbers of dice.
func drawn(d *dice.Dice, many int) []uint64 {
	var out []uint64
	for range many {
		out = append(out, d.Next())
	}
	return out
}

// twin draws by the document's words, in whole numbers whose rest by 2^64 is taken each time.
type twin struct{ state *big.Int }

func newTwin(seed uint64) *twin { return &twin{state: new(big.Int).SetUint64(seed)} }

func (w *twin) next() uint64 {
	w.state = rest(new(big.Int).Add(w.state, number(11400714819323198485)))
	x := rest(new(big.Int).Mul(folded(w.state, 30), number(13787848793156543929)))
	x = rest(new(big.Int).Mul(folded(x, 27), number(10723151780598845931)))
	return folded(x, 31).Uint64()
}

func (w *twin) below(n int) int {
	if n < 2 {
		return 0
	}
	return int(new(big.Int).Mod(number(w.next()), big.NewInt(int64(n))).Int64())
}

// pick marks the places that are gone, and counts those that aren't.
func (w *twin) pick(l []int, many int) []int {
	gone := make([]bool, len(l))
	out := []int{}
	for left := len(l); left > 0 && len(out) < many; left-- {
		at := w.below(left)
		for i := range l {
			if gone[i] {
				continue
			}
			if at == 0 {
				gone[i] = true
				out = append(out, l[i])
				break
			}
			at--
		}
	}
	return out
}

func number(n uint64) *big.Int { return new(big.Int).SetUint64(n) }

func rest(x *big.Int) *big.Int { return new(big.Int).Mod(x, new(big.Int).Lsh(big.NewInt(1), 64)) }

// folded is x xor x moved down.
func folded(x *big.Int, by uint) *big.Int { return new(big.Int).Xor(x, new(big.Int).Rsh(x, by)) }

// seeds are edges, and some between.
func seeds() []uint64 {
	out := []uint64{0, 1, 2, 42, 1234567, 1 << 31, 1 << 32, 1 << 63, math.MaxInt64, math.MaxUint64 - 1, math.MaxUint64}
	r := rand.New(rand.NewSource(17))
	for range 100 {
		out = append(out, r.Uint64())
	}
	return out
}

// expectNext holds the next draw of dice against that of a twin: so many draws were taken by both.
func expectNext(t *testing.T, what string, d *dice.Dice, w *twin) {
	t.Helper()
	if got, want := d.Next(), w.next(); got != want {
		t.Fatalf("%s: the next draw is %d, not %d", what, got, want)
	}
}

// P17.1

func TestNextIsAsKnown(t *testing.T) {
	for _, c := range []struct {
		seed uint64
		want []uint64
	}{
		{0, []uint64{16294208416658607535, 7960286522194355700, 487617019471545679, 17909611376780542444, 1961750202426094747}},
		{1, []uint64{10451216379200822465, 13757245211066428519, 17911839290282890590, 8196980753821780235, 8195237237126968761}},
		{1234567, []uint64{6457827717110365317, 3203168211198807973, 9817491932198370423, 4593380528125082431, 16408922859458223821}},
		{1 << 63, []uint64{5196802822362493915, 14154714916085338130, 7036458801432265024}},
		{math.MaxUint64, []uint64{16490336266968443936, 16834447057089888969, 4048727598324417001}},
		// A state of 0 behind the first step, and dice of 0 from there on.
		{7046029254386353131, []uint64{0, 16294208416658607535, 7960286522194355700}},
	} {
		if got := drawn(dice.New(c.seed), len(c.want)); !slices.Equal(got, c.want) {
			t.Errorf("draws of %d: %d, not %d", c.seed, got, c.want)
		}
	}
}

func TestNextIsByTheDocumentsWords(t *testing.T) {
	for _, seed := range seeds() {
		d, w := dice.New(seed), newTwin(seed)
		for range 100 {
			expectNext(t, "Next", d, w)
		}
	}
}

func TestNextOfNilIsNought(t *testing.T) {
	var d *dice.Dice
	for range 3 {
		if got := d.Next(); got != 0 {
			t.Errorf("Next of nil: %d", got)
		}
	}
}

func TestZeroDiceAreDiceOfNought(t *testing.T) {
	var d dice.Dice
	if got, want := drawn(&d, 3), drawn(dice.New(0), 3); !slices.Equal(got, want) {
		t.Errorf("draws of zero dice: %d, not %d", got, want)
	}
}

func TestBelowIsTheRestOfNext(t *testing.T) {
	ns := []int{2, 3, 4, 5, 7, 10, 63, 64, 100, 255, 256, 1000, 1 << 31, 1<<31 - 1, 1 << 32, 1 << 62, math.MaxInt - 1, math.MaxInt}
	for _, seed := range seeds() {
		d, e := dice.New(seed), dice.New(seed)
		for _, n := range ns {
			got, want := d.Below(n), int(e.Next()%uint64(n))
			if got != want || got < 0 || got >= n {
				t.Fatalf("dice of %d, Below of %d: %d, not %d", seed, n, got, want)
			}
		}
	}
}

func TestBelowOfTwoIsTheLowestBit(t *testing.T) {
	d, e := dice.New(5), dice.New(5)
	seen := [2]int{}
	for range 100 {
		got, want := d.Below(2), int(e.Next()&1)
		if got != want {
			t.Fatalf("Below of 2: %d, not %d", got, want)
		}
		seen[got]++
	}
	if seen[0] == 0 || seen[1] == 0 {
		t.Errorf("Below of 2 is 0 %d times, and 1 %d times", seen[0], seen[1])
	}
}

func TestBelowOfLessThanTwoDrawsNothing(t *testing.T) {
	for _, n := range []int{1, 0, -1, -2, -1000, math.MinInt} {
		d, w := dice.New(9), newTwin(9)
		expectNext(t, "ahead of Below", d, w)
		if got := d.Below(n); got != 0 {
			t.Errorf("Below of %d: %d", n, got)
		}
		expectNext(t, "behind Below", d, w)
	}
}

func TestBelowOfNilIsNought(t *testing.T) {
	var d *dice.Dice
	for _, n := range []int{math.MinInt, -1, 0, 1, 2, 3, 1000, math.MaxInt} {
		if got := d.Below(n); got != 0 {
			t.Errorf("Below of %d of nil: %d", n, got)
		}
	}
}

// P17.2

func TestPickIsAsDrawn(t *testing.T) {
	// The first five draws of 0, by their rests by 5, 4, 3 and 2: 0, 0, 1, 0, and the last one without a draw.
	d := dice.New(0)
	if got := d.Pick([]int{10, 11, 12, 13, 14}, 5); !slices.Equal(got, []int{10, 11, 13, 12, 14}) {
		t.Errorf("Pick: %d", got)
	}
	if got := d.Next(); got != 1961750202426094747 {
		t.Errorf("the draw behind four: %d", got)
	}
}

func TestPickByTheDocumentsWords(t *testing.T) {
	r := rand.New(rand.NewSource(18))
	for range 2000 {
		seed := r.Uint64()
		l := make([]int, r.Intn(20))
		for i := range l {
			l[i] = r.Intn(12) - 3
		}
		many := r.Intn(len(l)+6) - 2
		d, w := dice.New(seed), newTwin(seed)
		for range 3 {
			got, want := d.Pick(l, many), w.pick(l, many)
			if !slices.Equal(got, want) {
				t.Fatalf("dice of %d: %d of %d: %d, not %d", seed, many, l, got, want)
			}
		}
		expectNext(t, "behind Pick", d, w)
	}
}

func TestPickNeverMoreThanThereAre(t *testing.T) {
	l := []int{5, 6, 7}
	want := newTwin(3).pick(l, 3)
	for _, many := range []int{3, 4, 100, 1 << 40, math.MaxInt} {
		d, w := dice.New(3), newTwin(3)
		if got := d.Pick(l, many); !slices.Equal(got, want) {
			t.Errorf("%d of %d: %d, not %d", many, l, got, want)
		}
		w.pick(l, 3)
		expectNext(t, "behind Pick of all", d, w)
	}
}

func TestPickOfNothing(t *testing.T) {
	for _, l := range [][]int{nil, {}, {5}, {5, 6, 7}} {
		for _, many := range []int{0, -1, -3, -100, math.MinInt} {
			d, w := dice.New(4), newTwin(4)
			if got := d.Pick(l, many); len(got) != 0 {
				t.Errorf("%d of %d: %d", many, l, got)
			}
			expectNext(t, "behind Pick of nothing", d, w)
		}
	}
	for _, l := range [][]int{nil, {}} {
		for _, many := range []int{1, 2, math.MaxInt} {
			d, w := dice.New(4), newTwin(4)
			if got := d.Pick(l, many); len(got) != 0 {
				t.Errorf("%d of nothing: %d", many, got)
			}
			expectNext(t, "behind Pick of an empty list", d, w)
		}
	}
}

func TestPickOfTheOnlyOneDrawsNothing(t *testing.T) {
	for _, many := range []int{1, 2, 1000} {
		d, w := dice.New(6), newTwin(6)
		if got := d.Pick([]int{42}, many); !slices.Equal(got, []int{42}) {
			t.Errorf("%d of one: %d", many, got)
		}
		expectNext(t, "behind Pick of the only one", d, w)
	}
}

func TestPickTakesEachPlaceOnce(t *testing.T) {
	l := []int{}
	for i := range 300 {
		l = append(l, i*i-7)
	}
	got := dice.New(8).Pick(l, len(l))
	if slices.Equal(got, l) {
		t.Error("all are picked in their order")
	}
	slices.Sort(got)
	want := slices.Sorted(slices.Values(l))
	if !slices.Equal(got, want) {
		t.Errorf("picked: %d", got)
	}
}

func TestPickOfThoseThatAreAlike(t *testing.T) {
	// Those that are alike are as many as there are: one that is picked takes no other one with it.
	got := dice.New(8).Pick([]int{4, 4, 4, 4, 9, 9}, 6)
	slices.Sort(got)
	if !slices.Equal(got, []int{4, 4, 4, 4, 9, 9}) {
		t.Errorf("picked: %d", got)
	}
}

func TestPickOfFewerIsTheBeginningOfMore(t *testing.T) {
	l := []int{1, 2, 3, 4, 5, 6, 7, 8}
	all := dice.New(11).Pick(l, 8)
	for many := range 9 {
		if got := dice.New(11).Pick(l, many); !slices.Equal(got, all[:many]) {
			t.Errorf("%d of %d: %d, not %d", many, l, got, all[:many])
		}
	}
}

func TestPickIsInNewMemory(t *testing.T) {
	for seed := range uint64(50) {
		backing := []int{1, 2, 3, 4, 5, 6, 7, 8}
		l := backing[:5]
		d := dice.New(seed)
		got := d.Pick(l, 5)
		if !slices.Equal(backing, []int{1, 2, 3, 4, 5, 6, 7, 8}) {
			t.Fatalf("dice of %d: what was handed in is %d", seed, backing)
		}
		for i := range got {
			got[i] = 99
		}
		got = append(got, 99)
		if !slices.Equal(backing, []int{1, 2, 3, 4, 5, 6, 7, 8}) {
			t.Fatalf("dice of %d: what was handed in changes with the answer: %d", seed, backing)
		}
		again := d.Pick(l, 3)
		want := slices.Clone(again)
		clear(backing)
		clear(got[:cap(got)])
		if !slices.Equal(again, want) {
			t.Fatalf("dice of %d: the answer changes with what was handed in", seed)
		}
	}
}

func TestPickOfNilEnds(t *testing.T) {
	// What nil dice pick is free; that it are so many, each once, is not.
	var d *dice.Dice
	for _, many := range []int{math.MinInt, -1, 0, 1, 3, 4, math.MaxInt} {
		got := d.Pick([]int{5, 6, 7}, many)
		if want := max(0, min(many, 3)); len(got) != want {
			t.Errorf("%d of three of nil dice: %d", many, got)
		}
	}
}

// P17.3

func TestTheSameNumberDrawsTheSame(t *testing.T) {
	l := []int{3, 1, 4, 1, 5, 9, 2, 6}
	for _, seed := range seeds() {
		d, e := dice.New(seed), dice.New(seed)
		for n := range 30 {
			if d.Next() != e.Next() || d.Below(n) != e.Below(n) || !slices.Equal(d.Pick(l, n%10), e.Pick(l, n%10)) {
				t.Fatalf("dice of %d draw two things", seed)
			}
		}
	}
}

func TestDiceAreApart(t *testing.T) {
	d, e := dice.New(21), dice.New(21)
	want := drawn(dice.New(21), 10)
	got := []uint64{}
	for range 10 {
		got = append(got, d.Next())
		other := dice.New(77)
		other.Next()
		other.Pick([]int{1, 2, 3}, 3)
	}
	if !slices.Equal(got, want) || !slices.Equal(drawn(e, 10), want) {
		t.Error("what one draws changes what another one does")
	}
}

func TestAnotherNumberDrawsAnother(t *testing.T) {
	seen := map[uint64]uint64{}
	for seed := range uint64(10000) {
		x := dice.New(seed).Next()
		if other, ok := seen[x]; ok {
			t.Fatalf("dice of %d and %d draw one number", other, seed)
		}
		seen[x] = seed
	}
}
