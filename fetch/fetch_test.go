package fetch_test

import (
	"math"
	"math/rand"
	"slices"
	"testing"

	"assayer/api"
	"assayer/dice"
	"assayer/fetch"
)

// made is a table that may be.
func made(t *testing.T, base, most, budget int) *fetch.Table {
	t.Helper()
	s, err := fetch.New(base, most, budget)
	if err != api.OK || s == nil {
		t.Fatalf("New of %d, %d, %d: %v, error %d", base, most, budget, s, err)
	}
	return s
}

// key is a size, and a root that begins with some bytes.
func key(size uint64, root ...byte) api.Key {
	k := api.Key{Size: size}
	copy(k.Root[:], root)
	return k
}

// want is two keys that are told apart from others by their sizes.
func want(old, now uint64) fetch.Want { return fetch.Want{Old: key(old, 1), Now: key(now, 2)} }

// started lets some be asked for, none of which is yet.
func started(t *testing.T, s *fetch.Table, l ...fetch.Want) {
	t.Helper()
	for _, w := range l {
		if !s.Start(w) {
			t.Fatalf("Start of %v: false", w)
		}
	}
}

func expectOpen(t *testing.T, what string, s *fetch.Table, l ...fetch.Want) {
	t.Helper()
	if got := s.Open(); !slices.Equal(got, l) {
		t.Fatalf("%s: open are %v, not %v", what, got, l)
	}
	for _, w := range l {
		if !s.Has(w) {
			t.Fatalf("%s: %v isn't asked for", what, w)
		}
	}
}

// expectTick lets one tick go by, and holds what is told against what is to be.
func expectTick(t *testing.T, what string, s *fetch.Table, d *dice.Dice, now, over []fetch.Want) {
	t.Helper()
	gotNow, gotOver := s.Tick(d)
	if !slices.Equal(gotNow, now) || !slices.Equal(gotOver, over) {
		t.Fatalf("%s: Tick is %v and %v, not %v and %v", what, gotNow, gotOver, now, over)
	}
}

// told lets so many ticks go by: at which of them (from 1 on) one was to be asked for, and at which it wasn't waited for any more.
func told(s *fetch.Table, d *dice.Dice, w fetch.Want, ticks int) (asked, over []int) {
	for tick := range ticks {
		a, o := s.Tick(d)
		if slices.Contains(a, w) {
			asked = append(asked, tick+1)
		}
		if slices.Contains(o, w) {
			over = append(over, tick+1)
		}
	}
	return asked, over
}

// row is one that a twin asks for.
type row struct {
	w            fetch.Want
	tried, waits int
}

// twin asks by the document's words, in a row that is kept in order.
type twin struct {
	rows               []row
	base, most, budget int
}

func (p *twin) at(w fetch.Want) int {
	return slices.IndexFunc(p.rows, func(r row) bool { return r.w == w })
}

func (p *twin) start(w fetch.Want) bool {
	if p.at(w) >= 0 {
		return false
	}
	p.rows = append(p.rows, row{w: w, waits: 1})
	slices.SortFunc(p.rows, func(a, b row) int { return slices.Compare(spelt(a.w), spelt(b.w)) })
	return true
}

func (p *twin) done(w fetch.Want) bool {
	at := p.at(w)
	if at < 0 {
		return false
	}
	p.rows = slices.Delete(p.rows, at, at+1)
	return true
}

func (p *twin) tick(d *dice.Dice) (now, over []fetch.Want) {
	var left []row
	for _, r := range p.rows {
		r.waits--
		if r.waits == 0 && r.tried == p.budget {
			over = append(over, r.w)
			continue
		}
		if r.waits == 0 {
			now = append(now, r.w)
			r.waits = p.base
			for range r.tried {
				r.waits *= 2
			}
			if r.waits > p.most {
				r.waits = p.most
			}
			if p.base > 1 {
				r.waits += int(d.Next() % uint64(p.base))
			}
			r.tried++
		}
		left = append(left, r)
	}
	p.rows = left
	return now, over
}

func (p *twin) open() []fetch.Want {
	var out []fetch.Want
	for _, r := range p.rows {
		out = append(out, r.w)
	}
	return out
}

// spelt is both keys as numbers, of which the first that differs tells who is ahead.
func spelt(w fetch.Want) []uint64 {
	var out []uint64
	for _, k := range []api.Key{w.Old, w.Now} {
		out = append(out, k.Size)
		for _, b := range k.Root {
			out = append(out, uint64(b))
		}
	}
	return out
}

// P18.1

func TestNewOfWhatMayBe(t *testing.T) {
	for _, c := range [][3]int{
		{1, 1, 1}, {1, 2, 1}, {1, 1000, 20}, {2, 2, 2}, {50, 50, 10}, {50, 1000, 10}, {100, 100, 1}, {100, 1000, 20}, {99, 999, 19},
	} {
		expectOpen(t, "New", made(t, c[0], c[1], c[2]))
	}
}

func TestNewOfWhatMayNotBe(t *testing.T) {
	for _, c := range [][3]int{
		{0, 1, 1}, {0, 0, 1}, {-1, 10, 1}, {101, 1000, 1}, {101, 101, 1}, {math.MinInt, 10, 1}, {math.MaxInt, math.MaxInt, 1},
		{1, 0, 1}, {2, 1, 1}, {100, 99, 1}, {1, 1001, 1}, {100, 1001, 1}, {1, -1, 1}, {1, math.MinInt, 1}, {1, math.MaxInt, 1},
		{1, 1, 0}, {1, 1, 21}, {1, 1, -1}, {1, 1, math.MinInt}, {1, 1, math.MaxInt},
		{0, 0, 0},
	} {
		if s, err := fetch.New(c[0], c[1], c[2]); s != nil || err != api.ErrArg {
			t.Errorf("New of %d: %v, error %d", c, s, err)
		}
	}
}

func TestStartOnce(t *testing.T) {
	s := made(t, 1, 4, 5)
	w := want(3, 7)
	if s.Has(w) {
		t.Error("it is asked for ahead of Start")
	}
	if !s.Start(w) {
		t.Error("Start: false")
	}
	expectOpen(t, "Start", s, w)
	for range 3 {
		if s.Start(w) {
			t.Error("Start of what is asked for: true")
		}
		expectOpen(t, "Start again", s, w)
	}
}

func TestStartWaitsOneTick(t *testing.T) {
	s := made(t, 100, 1000, 20)
	started(t, s, want(3, 7))
	expectTick(t, "the first tick", s, dice.New(1), []fetch.Want{want(3, 7)}, nil)
	expectTick(t, "the second tick", s, dice.New(1), nil, nil)
	started(t, s, want(2, 3))
	expectTick(t, "the tick behind another Start", s, dice.New(1), []fetch.Want{want(2, 3)}, nil)
}

func TestStartOfWhatIsAskedForChangesNothing(t *testing.T) {
	// At tick 8 it is asked for the fourth time; a Start ahead of each tick lets it neither wait less nor begin anew.
	s := made(t, 1, 1000, 4)
	w := want(3, 7)
	started(t, s, w)
	var asked, over []int
	for tick := range 20 {
		if len(over) == 0 && s.Start(w) {
			t.Fatalf("Start ahead of tick %d: true", tick+1)
		}
		a, o := s.Tick(nil)
		if len(a) > 0 {
			asked = append(asked, tick+1)
		}
		if len(o) > 0 {
			over = append(over, tick+1)
		}
	}
	if !slices.Equal(asked, []int{1, 2, 4, 8}) || !slices.Equal(over, []int{16}) {
		t.Errorf("asked for at ticks %d, over at %d", asked, over)
	}
}

func TestDone(t *testing.T) {
	s := made(t, 1, 4, 5)
	a, b := want(3, 7), want(4, 7)
	if s.Done(a) {
		t.Error("Done of what isn't asked for: true")
	}
	started(t, s, a, b)
	if s.Done(want(3, 8)) || s.Done(fetch.Want{}) {
		t.Error("Done of another one: true")
	}
	expectOpen(t, "Done of another one", s, a, b)
	if !s.Done(a) {
		t.Error("Done: false")
	}
	if s.Has(a) || s.Done(a) {
		t.Error("it is asked for behind Done")
	}
	expectOpen(t, "Done", s, b)
	expectTick(t, "Done", s, nil, []fetch.Want{b}, nil)
	if !s.Done(b) {
		t.Error("Done of one that was tried: false")
	}
	expectOpen(t, "Done of all", s)
	for range 40 {
		expectTick(t, "Done of all", s, nil, nil, nil)
	}
}

func TestStartBehindDoneBeginsAnew(t *testing.T) {
	s := made(t, 1, 1000, 3)
	w := want(3, 7)
	started(t, s, w)
	told(s, nil, w, 5)
	if !s.Done(w) {
		t.Fatal("Done: false")
	}
	started(t, s, w)
	asked, over := told(s, nil, w, 50)
	if !slices.Equal(asked, []int{1, 2, 4}) || !slices.Equal(over, []int{8}) {
		t.Errorf("asked for at ticks %d, over at %d", asked, over)
	}
}

func TestOpenInOrder(t *testing.T) {
	low, high := make([]byte, 32), make([]byte, 32)
	low[31], high[31] = 1, 2
	ordered := []fetch.Want{
		{},
		{Old: key(0), Now: key(0, 1)},
		{Old: key(0), Now: key(math.MaxUint64)},
		{Old: key(0, 1), Now: key(0)},
		{Old: key(1, low...), Now: key(9)},
		{Old: key(1, high...), Now: key(3)},
		{Old: key(1, 1), Now: key(2)},
		{Old: key(1, 1), Now: key(2, 255)},
		{Old: key(1, 1), Now: key(3)},
		{Old: key(1, 1), Now: key(256)},
		{Old: key(1, 255), Now: key(0)},
		{Old: key(2), Now: key(5, low...)},
		{Old: key(2), Now: key(5, high...)},
		{Old: key(256), Now: key(1)},
		{Old: key(1 << 63), Now: key(1)},
		{Old: key(math.MaxUint64), Now: key(1)},
	}
	r := rand.New(rand.NewSource(1))
	for range 200 {
		s := made(t, 1, 4, 5)
		for _, i := range r.Perm(len(ordered)) {
			started(t, s, ordered[i])
		}
		expectOpen(t, "Open", s, ordered...)
		expectTick(t, "all", s, nil, ordered, nil)
	}
}

func TestWantsAreToldApartByEachPart(t *testing.T) {
	s := made(t, 1, 4, 5)
	w := fetch.Want{Old: key(3, 1), Now: key(7, 2)}
	started(t, s, w)
	last := make([]byte, 32)
	last[0], last[31] = 1, 1
	for _, other := range []fetch.Want{
		{Old: key(4, 1), Now: key(7, 2)},
		{Old: key(3, 2), Now: key(7, 2)},
		{Old: key(3, last...), Now: key(7, 2)},
		{Old: key(3, 1), Now: key(8, 2)},
		{Old: key(3, 1), Now: key(7, 1)},
		{Old: key(7, 2), Now: key(3, 1)},
		{Old: key(3, 1), Now: key(3, 1)},
		{},
	} {
		if s.Has(other) || s.Done(other) {
			t.Errorf("%v is asked for", other)
		}
		started(t, s, other)
		if !s.Done(other) || !s.Has(w) {
			t.Errorf("Done of %v", other)
		}
	}
	expectOpen(t, "others", s, w)
}

func TestHasChangesNothing(t *testing.T) {
	s := made(t, 1, 4, 5)
	w := want(3, 7)
	for range 3 {
		if s.Has(w) {
			t.Fatal("it is asked for")
		}
	}
	expectOpen(t, "Has", s)
	expectTick(t, "Has", s, nil, nil, nil)
}

func TestNilIsNothing(t *testing.T) {
	var s *fetch.Table
	w := want(3, 7)
	for range 2 {
		if s.Start(w) || s.Has(w) || s.Done(w) || len(s.Open()) != 0 {
			t.Error("nil asks for something")
		}
		d, e := dice.New(5), dice.New(5)
		expectTick(t, "nil", s, d, nil, nil)
		expectTick(t, "nil, nil dice", s, nil, nil, nil)
		if d.Next() != e.Next() {
			t.Error("nil draws")
		}
	}
}

func TestZeroTableEnds(t *testing.T) {
	var s fetch.Table
	w := want(3, 7)
	for range 3 {
		s.Start(w)
		s.Has(w)
		s.Tick(dice.New(5))
		s.Open()
		s.Done(w)
	}
}

// P18.2

func TestTickAsInTheExample(t *testing.T) {
	s := made(t, 1, 4, 5)
	w := want(3, 7)
	started(t, s, w)
	asked, over := told(s, dice.New(1), w, 30)
	if !slices.Equal(asked, []int{1, 2, 4, 8, 12}) || !slices.Equal(over, []int{16}) {
		t.Errorf("asked for at ticks %d, over at %d", asked, over)
	}
}

func TestWaitsGrow(t *testing.T) {
	// Nil dice draw 0, so that it waits no more than it must.
	for _, c := range []struct {
		base, most, budget int
		waits              []int
	}{
		{1, 1, 4, []int{1, 1, 1, 1}},
		{1, 2, 4, []int{1, 2, 2, 2}},
		{1, 3, 4, []int{1, 2, 3, 3}},
		{1, 1000, 12, []int{1, 2, 4, 8, 16, 32, 64, 128, 256, 512, 1000, 1000}},
		{3, 3, 3, []int{3, 3, 3}},
		{3, 20, 5, []int{3, 6, 12, 20, 20}},
		{3, 24, 5, []int{3, 6, 12, 24, 24}},
		{7, 1000, 1, []int{7}},
		{100, 100, 3, []int{100, 100, 100}},
		{100, 1000, 20, []int{100, 200, 400, 800, 1000, 1000, 1000, 1000, 1000, 1000, 1000, 1000, 1000, 1000, 1000, 1000, 1000, 1000, 1000, 1000}},
		{100, 199, 2, []int{100, 199}},
		{100, 201, 3, []int{100, 200, 201}},
	} {
		s := made(t, c.base, c.most, c.budget)
		w := want(3, 7)
		started(t, s, w)
		asked := []int{1}
		for _, n := range c.waits {
			asked = append(asked, asked[len(asked)-1]+n)
		}
		last := len(asked) - 1
		gotAsked, gotOver := told(s, nil, w, asked[last]+2500)
		if !slices.Equal(gotAsked, asked[:last]) || !slices.Equal(gotOver, asked[last:]) {
			t.Errorf("%d, %d, %d: asked for at ticks %d, over at %d, not %d", c.base, c.most, c.budget, gotAsked, gotOver, asked)
		}
	}
}

func TestWaitsAreDrawn(t *testing.T) {
	for seed := range uint64(50) {
		base := 2 + int(seed)
		s := made(t, base, 4*base+1, 6)
		w := want(3, 7)
		started(t, s, w)
		e := dice.New(seed)
		asked := []int{1}
		for _, least := range []int{base, 2 * base, 4 * base, 4*base + 1, 4*base + 1, 4*base + 1} {
			asked = append(asked, asked[len(asked)-1]+least+int(e.Next()%uint64(base)))
		}
		d := dice.New(seed)
		gotAsked, gotOver := told(s, d, w, 3000)
		if !slices.Equal(gotAsked, asked[:6]) || !slices.Equal(gotOver, asked[6:]) {
			t.Fatalf("dice of %d: asked for at ticks %d, over at %d, not %d", seed, gotAsked, gotOver, asked)
		}
		// One draw each time that it is asked for, and none at the end.
		if d.Next() != e.Next() {
			t.Fatalf("dice of %d: not as many draws as asks", seed)
		}
	}
}

func TestWhatIsDrawnIsMoreThanMost(t *testing.T) {
	longest := 0
	for seed := range uint64(200) {
		s := made(t, 10, 10, 2)
		w := want(3, 7)
		started(t, s, w)
		asked, _ := told(s, dice.New(seed), w, 60)
		longest = max(longest, asked[1]-asked[0])
	}
	if longest != 19 {
		t.Errorf("the longest wait is %d", longest)
	}
}

func TestBaseOfOneDrawsNothing(t *testing.T) {
	s := made(t, 1, 4, 5)
	started(t, s, want(3, 7), want(4, 7))
	d, e := dice.New(8), dice.New(8)
	for range 40 {
		s.Tick(d)
	}
	if d.Next() != e.Next() {
		t.Error("something is drawn")
	}
}

func TestWhatWaitsDrawsNothing(t *testing.T) {
	s := made(t, 9, 100, 5)
	started(t, s, want(3, 7))
	s.Tick(dice.New(8))
	d, e := dice.New(8), dice.New(8)
	for range 8 {
		expectTick(t, "it waits", s, d, nil, nil)
	}
	if d.Next() != e.Next() {
		t.Error("something is drawn")
	}
}

func TestThoseThatAreAskedForDrawInOrder(t *testing.T) {
	l := []fetch.Want{want(1, 5), want(1, 6), want(2, 3), want(2, 4), want(3, 9), want(4, 5)}
	for seed := range uint64(50) {
		s := made(t, 50, 50, 5)
		for _, i := range rand.New(rand.NewSource(int64(seed))).Perm(len(l)) {
			started(t, s, l[i])
		}
		e := dice.New(seed)
		due := map[int][]fetch.Want{}
		for _, w := range l {
			tick := 50 + e.Below(50)
			due[tick] = append(due[tick], w)
		}
		d := dice.New(seed)
		expectTick(t, "the first tick", s, d, l, nil)
		// Whichever is asked for again waits 50 ticks at least, so that none is for the third time here.
		for tick := 1; tick < 100; tick++ {
			now, _ := s.Tick(d)
			if !slices.Equal(now, due[tick]) {
				t.Fatalf("dice of %d: asked for at tick %d behind the first one: %v, not %v", seed, tick, now, due[tick])
			}
		}
	}
}

func TestWhatIsOverIsNotAskedFor(t *testing.T) {
	s := made(t, 1, 1, 1)
	a, b, c := want(1, 5), want(2, 5), want(3, 5)
	started(t, s, c, a)
	expectTick(t, "the first tick", s, nil, []fetch.Want{a, c}, nil)
	expectOpen(t, "asked for", s, a, c)
	started(t, s, b)
	expectTick(t, "the second tick", s, nil, []fetch.Want{b}, []fetch.Want{a, c})
	expectOpen(t, "two are over", s, b)
	if s.Has(a) || s.Done(a) {
		t.Error("what is over is asked for")
	}
	expectTick(t, "the third tick", s, nil, nil, []fetch.Want{b})
	expectOpen(t, "all are over", s)
	expectTick(t, "the fourth tick", s, nil, nil, nil)
	started(t, s, a)
	expectTick(t, "anew", s, nil, []fetch.Want{a}, nil)
	expectTick(t, "anew", s, nil, nil, []fetch.Want{a})
}

func TestWhatIsOverDrawsNothing(t *testing.T) {
	s := made(t, 2, 2, 1)
	a, b := want(1, 5), want(2, 5)
	started(t, s, a)
	s.Tick(nil)
	expectTick(t, "a waits", s, nil, nil, nil)
	started(t, s, b)
	d, e := dice.New(8), dice.New(8)
	expectTick(t, "a is over", s, d, []fetch.Want{b}, []fetch.Want{a})
	e.Next()
	if d.Next() != e.Next() {
		t.Error("not one draw")
	}
}

func TestTickOfNilDiceEnds(t *testing.T) {
	s := made(t, 100, 1000, 20)
	started(t, s, want(3, 7))
	for range 100 {
		s.Tick(nil)
	}
}

func TestByTheDocumentsWords(t *testing.T) {
	r := rand.New(rand.NewSource(18))
	for range 100 {
		base := 1 + r.Intn(6)
		if r.Intn(5) == 0 {
			base = 1 + r.Intn(100)
		}
		most := base + r.Intn(30)
		budget := 1 + r.Intn(6)
		s, p := made(t, base, most, budget), &twin{base: base, most: most, budget: budget}
		seed := r.Uint64()
		d, e := dice.New(seed), dice.New(seed)
		for range 300 {
			w := fetch.Want{Old: key(uint64(r.Intn(3)), byte(r.Intn(2))), Now: key(uint64(r.Intn(3)), byte(r.Intn(2)))}
			switch n := r.Intn(10); {
			case n < 3:
				if got, want := s.Start(w), p.start(w); got != want {
					t.Fatalf("Start of %v: %v, not %v", w, got, want)
				}
			case n < 4:
				if got, want := s.Done(w), p.done(w); got != want {
					t.Fatalf("Done of %v: %v, not %v", w, got, want)
				}
			default:
				now, over := p.tick(e)
				expectTick(t, "at random", s, d, now, over)
			}
			if got, want := s.Has(w), p.at(w) >= 0; got != want {
				t.Fatalf("Has of %v: %v, not %v", w, got, want)
			}
			expectOpen(t, "at random", s, p.open()...)
		}
		if d.Next() != e.Next() {
			t.Fatal("not as many draws")
		}
	}
}

func TestAnswersAreNewMemory(t *testing.T) {
	s := made(t, 1, 1, 1)
	a, b, c := want(1, 5), want(2, 5), want(3, 5)
	started(t, s, a, b)
	open := s.Open()
	now, _ := s.Tick(nil)
	started(t, s, c)
	kept := s.Open()
	clear(open[:cap(open)])
	clear(now[:cap(now)])
	expectOpen(t, "answers that are changed", s, a, b, c)
	next, over := s.Tick(nil)
	if !slices.Equal(kept, []fetch.Want{a, b, c}) {
		t.Errorf("an answer changes with the table: %v", kept)
	}
	clear(next[:cap(next)])
	if !slices.Equal(over, []fetch.Want{a, b}) {
		t.Errorf("two answers share memory: %v", over)
	}
	clear(over[:cap(over)])
	expectOpen(t, "answers that are changed", s, c)
}

func TestTablesAreApart(t *testing.T) {
	s, other := made(t, 1, 4, 5), made(t, 1, 4, 5)
	w := want(3, 7)
	started(t, s, w)
	expectOpen(t, "the other one", other)
	started(t, other, w)
	for range 40 {
		other.Tick(nil)
	}
	expectOpen(t, "the first one", s, w)
	expectTick(t, "the first one", s, nil, []fetch.Want{w}, nil)
}

// P18.3

func TestAskedForAsOftenAsItMay(t *testing.T) {
	for budget := 1; budget <= 20; budget++ {
		s := made(t, 3, 17, budget)
		w := want(3, 7)
		started(t, s, w)
		asked, over := told(s, dice.New(uint64(budget)), w, 1000)
		if len(asked) != budget || len(over) != 1 || over[0] <= asked[budget-1] {
			t.Errorf("a budget of %d: asked for at ticks %d, over at %d", budget, asked, over)
		}
	}
}

func TestNeverAskedForMoreOftenAndToldOnce(t *testing.T) {
	r := rand.New(rand.NewSource(19))
	const budget = 4
	s := made(t, 2, 6, budget)
	d := dice.New(3)
	asked := map[fetch.Want]int{} // since it was started; those alone that are asked for
	for range 20000 {
		w := want(uint64(r.Intn(4)), uint64(r.Intn(4)))
		switch r.Intn(20) {
		case 0:
			if s.Start(w) {
				asked[w] = 0
			}
		case 1:
			if s.Done(w) {
				delete(asked, w)
			}
		}
		now, over := s.Tick(d)
		for _, w := range now {
			asked[w]++
			if asked[w] > budget {
				t.Fatalf("%v is asked for %d times", w, asked[w])
			}
		}
		for _, w := range over {
			if n, ok := asked[w]; !ok || n != budget {
				t.Fatalf("%v is told to be over, asked for %d times", w, n)
			}
			delete(asked, w)
		}
		if len(s.Open()) != len(asked) {
			t.Fatalf("open are %d, not %d", len(s.Open()), len(asked))
		}
	}
}
