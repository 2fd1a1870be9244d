package heads_test

import (
	"math"
	"math/rand"
	"slices"
	"testing"

	"assayer/api"
	"assayer/head"
	"assayer/heads"
	"assayer/keys"
)

// made is a table that may be.
func made(t *testing.T, room int) *heads.Table {
	t.Helper()
	s, err := heads.New(room)
	if err != api.OK || s == nil {
		t.Fatalf("New of %d: %v, error %d", room, s, err)
	}
	return s
}

// key is a size, and a root that begins with some bytes.
func key(size uint64, root ...byte) api.Key {
	k := api.Key{Size: size}
	copy(k.Root[:], root)
	return k
}

// headOf is a head of a key that is told apart from all others of that key by its
// number: whether heads are signed isn't asked for here.
func headOf(k api.Key, number byte) head.Head {
	h := head.Head{Key: k, Sig: keys.Sig{Index: number}}
	h.Sig.One[63][1][31] = number + 1
	h.Sig.Path[2][31] = number + 2
	return h
}

// filled is a table of so much room, in which there is a head (number 7) of each key.
func filled(t *testing.T, room int, l ...api.Key) *heads.Table {
	t.Helper()
	s := made(t, room)
	for _, k := range l {
		laid(t, s, headOf(k, 7))
	}
	return s
}

// laid puts a head for which none is given up.
func laid(t *testing.T, s *heads.Table, h head.Head) {
	t.Helper()
	if gone, given, err := s.Put(h); gone != (api.Key{}) || given || err != api.OK {
		t.Fatalf("Put of %v: %v, %v, error %d", h.Key, gone, given, err)
	}
}

// tied links two keys, which goes.
func tied(t *testing.T, s *heads.Table, old, now api.Key) {
	t.Helper()
	if err := s.Link(old, now); err != api.OK {
		t.Fatalf("Link of %v and %v: error %d", old, now, err)
	}
}

func expectGivenUp(t *testing.T, s *heads.Table, h head.Head, want api.Key) {
	t.Helper()
	if gone, given, err := s.Put(h); gone != want || !given || err != api.OK {
		t.Errorf("Put of %v: %v, %v, error %d, want that %v is given up", h.Key, gone, given, err, want)
	}
}

func expectRefused(t *testing.T, s *heads.Table, h head.Head, want api.Errno) {
	t.Helper()
	if gone, given, err := s.Put(h); gone != (api.Key{}) || given || err != want {
		t.Errorf("Put of %v: %v, %v, error %d, want %d", h.Key, gone, given, err, want)
	}
}

func expectLink(t *testing.T, s *heads.Table, old, now api.Key, want api.Errno) {
	t.Helper()
	was := s.Linked(old, now)
	if err := s.Link(old, now); err != want {
		t.Errorf("Link of %v and %v: error %d, want %d", old, now, err, want)
	}
	expectLinked(t, s, old, now, was || want == api.OK)
}

func expectLinked(t *testing.T, s *heads.Table, old, now api.Key, want bool) {
	t.Helper()
	if got := s.Linked(old, now); got != want {
		t.Errorf("Linked of %v and %v: %v, want %v", old, now, got, want)
	}
}

// expectKeys asks for all keys that are held, in their order.
func expectKeys(t *testing.T, s *heads.Table, want ...api.Key) {
	t.Helper()
	if got := s.Keys(); !slices.Equal(got, want) {
		t.Errorf("Keys: %v, want %v", got, want)
	}
	if got := s.Len(); got != len(want) {
		t.Errorf("Len: %d, want %d", got, len(want))
	}
}

// expectHead holds a head that was told against the one that should be.
func expectHead(t *testing.T, name string, got head.Head, ok bool, want head.Head) {
	t.Helper()
	if !ok || got != want {
		t.Errorf("%s: %v, leaf %d, %v, want %v, leaf %d", name, got.Key, got.Sig.Index, ok, want.Key, want.Sig.Index)
	}
}

// expectNone holds a head that was told against none.
func expectNone(t *testing.T, name string, got head.Head, ok bool) {
	t.Helper()
	if ok || got != (head.Head{}) {
		t.Errorf("%s: %v, leaf %d, %v, want none", name, got.Key, got.Sig.Index, ok)
	}
}

func expectGet(t *testing.T, s *heads.Table, want head.Head) {
	t.Helper()
	got, ok := s.Get(want.Key)
	expectHead(t, "Get", got, ok, want)
}

func expectGetNone(t *testing.T, s *heads.Table, k api.Key) {
	t.Helper()
	got, ok := s.Get(k)
	expectNone(t, "Get", got, ok)
}

func expectRival(t *testing.T, s *heads.Table, k api.Key, want head.Head) {
	t.Helper()
	got, ok := s.Rival(k)
	expectHead(t, "Rival", got, ok, want)
}

func expectNoRival(t *testing.T, s *heads.Table, k api.Key) {
	t.Helper()
	got, ok := s.Rival(k)
	expectNone(t, "Rival", got, ok)
}

func expectLatest(t *testing.T, s *heads.Table, want head.Head) {
	t.Helper()
	got, ok := s.Latest()
	expectHead(t, "Latest", got, ok, want)
}

func expectNoLatest(t *testing.T, s *heads.Table) {
	t.Helper()
	got, ok := s.Latest()
	expectNone(t, "Latest", got, ok)
}

// P14.1

// rising are keys, each ahead of the next one.
func rising() []api.Key {
	last := key(math.MaxUint64)
	for i := range last.Root {
		last.Root[i] = 255
	}
	end := key(5)
	end.Root[31] = 1
	return []api.Key{
		key(0), key(0, 255), key(1), key(1, 0, 1), key(1, 1), key(1, 1, 255), key(1, 2),
		key(5), end, key(5, 127), key(5, 128), key(5, 255), key(6), key(255), key(256),
		key(1 << 32), key(1<<63 - 1), key(1 << 63), key(math.MaxUint64), last,
	}
}

func TestLessOfEachTwo(t *testing.T) {
	l := rising()
	for i, a := range l {
		for j, b := range l {
			if got := heads.Less(a, b); got != (i < j) {
				t.Errorf("Less of %v and %v: %v", a, b, got)
			}
		}
	}
}

// The first byte in which two roots differ tells, whatever is behind it.
func TestLessByEachByteOfARoot(t *testing.T) {
	for place := range 32 {
		a, b := key(9), key(9)
		a.Root[place], b.Root[place] = 127, 128
		for behind := place + 1; behind < 32; behind++ {
			a.Root[behind] = 255
		}
		if !heads.Less(a, b) || heads.Less(b, a) {
			t.Errorf("roots that differ in byte %d: %v, %v", place, heads.Less(a, b), heads.Less(b, a))
		}
		b.Size--
		if heads.Less(a, b) || !heads.Less(b, a) {
			t.Errorf("a lower size, and a root that is behind in byte %d", place)
		}
	}
}

func TestNewOfEachRoom(t *testing.T) {
	for room := 1; room <= 64; room++ {
		s := made(t, room)
		expectKeys(t, s)
		expectNoLatest(t, s)
		for size := range uint64(room) {
			laid(t, s, headOf(key(size), 0))
		}
		expectRefused(t, s, headOf(key(uint64(room)), 0), api.ErrFull)
	}
}

func TestNewOfRoomThatMayNotBe(t *testing.T) {
	for _, room := range []int{math.MinInt, -64, -1, 0, 65, 66, 128, 1<<32 + 1, math.MaxInt} {
		if s, err := heads.New(room); s != nil || err != api.ErrArg {
			t.Errorf("New of %d: %v, error %d", room, s, err)
		}
	}
}

func TestPutHoldsTheHead(t *testing.T) {
	s := made(t, 64)
	l := rising()
	for i, k := range l {
		expectGetNone(t, s, k)
		laid(t, s, headOf(k, byte(i)))
	}
	for i, k := range l {
		expectGet(t, s, headOf(k, byte(i)))
	}
}

// Whoever holds a head of a key holds it on, not the second one of that key.
func TestPutTwice(t *testing.T) {
	a, b := key(3, 1), key(4, 1)
	s := filled(t, 3, a, b)
	tied(t, s, a, b)
	for _, number := range []byte{7, 0, 1} {
		expectRefused(t, s, headOf(a, number), api.ErrTwice)
		expectRefused(t, s, headOf(b, number), api.ErrTwice)
	}
	expectGet(t, s, headOf(a, 7))
	expectGet(t, s, headOf(b, 7))
	expectKeys(t, s, a, b)
	expectLinked(t, s, a, b, true)
}

// ErrTwice comes ahead of ErrFull, and gives nothing up.
func TestPutTwiceOfAFullTable(t *testing.T) {
	a, b := key(3), key(4)
	s := filled(t, 2, a, b)
	expectRefused(t, s, headOf(a, 1), api.ErrTwice)
	tied(t, s, a, b)
	expectRefused(t, s, headOf(a, 1), api.ErrTwice)
	expectRefused(t, s, headOf(b, 1), api.ErrTwice)
	expectKeys(t, s, a, b)
	expectLinked(t, s, a, b, true)
}

// The chapter's example.
func TestPutOfTwoWithRoomForOne(t *testing.T) {
	s := filled(t, 1, key(1))
	expectRefused(t, s, headOf(key(2), 0), api.ErrFull)
	expectRefused(t, s, headOf(key(1, 1), 0), api.ErrFull)
	expectRefused(t, s, headOf(key(0), 0), api.ErrFull)
	expectKeys(t, s, key(1))
	expectGetNone(t, s, key(2))
}

// As long as there is room, none is given up, though some can be.
func TestPutWithRoomGivesNothingUp(t *testing.T) {
	s := filled(t, 4, key(1), key(2))
	tied(t, s, key(1), key(2))
	laid(t, s, headOf(key(3), 0))
	laid(t, s, headOf(key(4), 0))
	expectKeys(t, s, key(1), key(2), key(3), key(4))
	expectLinked(t, s, key(1), key(2), true)
}

// One that isn't linked to another one is never given up, be it ahead of all, or
// linked from another one.
func TestPutGivesUpALinkedOneAlone(t *testing.T) {
	s := filled(t, 4, key(1), key(2), key(3), key(4))
	tied(t, s, key(3), key(4))
	expectGivenUp(t, s, headOf(key(5), 9), key(3))
	expectKeys(t, s, key(1), key(2), key(4), key(5))
	expectGet(t, s, headOf(key(5), 9))
	expectGetNone(t, s, key(3))
	expectRefused(t, s, headOf(key(6), 0), api.ErrFull)
	expectKeys(t, s, key(1), key(2), key(4), key(5))
}

// Of those that can be given up the one that is ahead goes, by size, then by root,
// in whatever order they were put and linked.
func TestPutGivesUpTheOneThatIsAhead(t *testing.T) {
	r := rand.New(rand.NewSource(1))
	for range 50 {
		l := rising()
		top := l[len(l)-1]
		spare := l[:len(l)-2]
		s := made(t, len(l))
		for _, i := range r.Perm(len(l)) {
			laid(t, s, headOf(l[i], 0))
		}
		for _, i := range r.Perm(len(spare)) {
			tied(t, s, spare[i], top)
		}
		var in []api.Key
		for i, k := range spare {
			in = append(in, key(math.MaxUint64, 1, byte(i)))
			expectGivenUp(t, s, headOf(in[i], 0), k)
		}
		expectRefused(t, s, headOf(key(7), 0), api.ErrFull)
		expectKeys(t, s, append(append([]api.Key{l[len(l)-2]}, in...), top)...)
	}
}

// The one that comes is held, though it is ahead of all, and of the one that goes.
func TestPutOfOneThatIsAheadOfAll(t *testing.T) {
	s := filled(t, 2, key(5), key(6))
	tied(t, s, key(5), key(6))
	expectGivenUp(t, s, headOf(key(0), 3), key(5))
	expectKeys(t, s, key(0), key(6))
	expectGet(t, s, headOf(key(0), 3))
}

// The first key that there is can be given up as any other one.
func TestPutGivesUpTheEmptyKey(t *testing.T) {
	s := filled(t, 2, api.Key{}, key(1))
	tied(t, s, api.Key{}, key(1))
	expectGivenUp(t, s, headOf(key(2), 0), api.Key{})
	expectKeys(t, s, key(1), key(2))
	expectGetNone(t, s, api.Key{})
}

// With one that is given up all links from it and to it go, and no others.
func TestLinksGoWithTheOneThatIsGivenUp(t *testing.T) {
	a, b, c, d, e := key(1), key(2), key(3), key(4), key(5)
	s := filled(t, 5, a, b, c, d, e)
	tied(t, s, b, c)
	tied(t, s, b, e)
	tied(t, s, c, d)
	tied(t, s, c, e)
	expectGivenUp(t, s, headOf(key(6), 0), b)
	for _, k := range []api.Key{a, b, c, d, e, key(6)} {
		expectLinked(t, s, b, k, false)
		expectLinked(t, s, k, b, false)
	}
	expectLinked(t, s, c, d, true)
	expectLinked(t, s, c, e, true)
	tied(t, s, a, c)
	tied(t, s, a, d)
	// Both a and c can be given up; a is ahead.
	expectGivenUp(t, s, headOf(key(7), 0), a)
	tied(t, s, d, e)
	expectGivenUp(t, s, headOf(key(8), 0), c)
	expectLinked(t, s, c, d, false)
	expectLinked(t, s, d, e, true)
	expectKeys(t, s, d, e, key(6), key(7), key(8))
}

// One that goes on in another one is ahead of it, and so is given up before it.
func TestARowOfLinksIsGivenUpFromItsFront(t *testing.T) {
	a, b, c := key(1, 9), key(2, 1), key(3)
	s := filled(t, 3, c, b, a)
	tied(t, s, b, c)
	tied(t, s, a, b)
	expectGivenUp(t, s, headOf(key(0), 0), a)
	expectLinked(t, s, a, b, false)
	expectLinked(t, s, b, c, true)
	expectGivenUp(t, s, headOf(key(0, 1), 0), b)
	expectLinked(t, s, b, c, false)
	expectRefused(t, s, headOf(a, 0), api.ErrFull)
	expectKeys(t, s, key(0), key(0, 1), c)
}

// One that isn't linked, or was given up and came back, can't be given up until it
// is linked again.
func TestOneThatIsLinkedAgain(t *testing.T) {
	a, b := key(3), key(4)
	s := filled(t, 2, a, b)
	expectRefused(t, s, headOf(key(1), 0), api.ErrFull)
	tied(t, s, a, b)
	expectGivenUp(t, s, headOf(key(1), 0), a)
	expectRefused(t, s, headOf(a, 0), api.ErrFull)
	tied(t, s, key(1), b)
	expectGivenUp(t, s, headOf(a, 1), key(1))
	expectRefused(t, s, headOf(key(1), 0), api.ErrFull)
	tied(t, s, a, b)
	expectGivenUp(t, s, headOf(key(1), 1), a)
	expectGet(t, s, headOf(key(1), 1))
}

// One that comes back has no links, neither from it nor to it.
func TestOneThatComesBackHasNoLinks(t *testing.T) {
	a, b, c := key(1), key(2), key(3)
	s := filled(t, 3, a, b, c)
	tied(t, s, a, b)
	tied(t, s, a, c)
	expectGivenUp(t, s, headOf(key(4), 0), a)
	tied(t, s, b, c)
	expectGivenUp(t, s, headOf(a, 8), b)
	expectGet(t, s, headOf(a, 8))
	expectLinked(t, s, a, c, false)
	expectRefused(t, s, headOf(b, 0), api.ErrFull)
	tied(t, s, a, c)
	expectGivenUp(t, s, headOf(b, 8), a)
	for _, k := range []api.Key{a, b, c, key(4)} {
		expectLinked(t, s, a, k, false)
		expectLinked(t, s, b, k, false)
	}
}

// P14.2

func TestLinkOfThoseThatAreHeld(t *testing.T) {
	l := rising()
	s := filled(t, 64, l...)
	for i, old := range l {
		for j, now := range l {
			want := api.OK
			if l[i].Size >= l[j].Size {
				want = api.ErrArg
			}
			expectLinked(t, s, old, now, false)
			expectLink(t, s, old, now, want)
		}
	}
	for _, old := range l {
		for _, now := range l {
			expectLinked(t, s, old, now, old.Size < now.Size)
		}
	}
	expectKeys(t, s, l...)
}

// ErrNone comes ahead of ErrArg, whichever of the two isn't held.
func TestLinkOfOneThatIsNotHeld(t *testing.T) {
	s := filled(t, 64, key(1), key(5), key(9))
	none := []api.Key{key(0), key(1, 1), key(4), key(5, 1), key(6), key(10), key(math.MaxUint64)}
	for _, k := range none {
		for _, is := range s.Keys() {
			expectLink(t, s, k, is, api.ErrNone)
			expectLink(t, s, is, k, api.ErrNone)
		}
		for _, other := range none {
			expectLink(t, s, k, other, api.ErrNone)
		}
	}
	// Those that come later aren't linked by that.
	laid(t, s, headOf(key(4), 0))
	expectLinked(t, s, key(1), key(4), false)
	expectLinked(t, s, key(4), key(5), false)
}

func TestLinkTwice(t *testing.T) {
	s := filled(t, 3, key(1), key(2), key(3))
	for range 3 {
		expectLink(t, s, key(1), key(2), api.OK)
	}
	tied(t, s, key(2), key(3))
	expectGivenUp(t, s, headOf(key(4), 0), key(1))
	expectLinked(t, s, key(1), key(2), false)
	expectLink(t, s, key(1), key(2), api.ErrNone)
}

// It is asked for one Link: neither for two of them, nor the other way round.
func TestLinkedIsByOneLink(t *testing.T) {
	s := filled(t, 4, key(1), key(2), key(3), key(3, 1))
	tied(t, s, key(1), key(2))
	tied(t, s, key(2), key(3))
	expectLinked(t, s, key(1), key(3), false)
	expectLinked(t, s, key(2), key(1), false)
	expectLinked(t, s, key(3), key(1), false)
	expectLinked(t, s, key(1), key(1), false)
	expectLinked(t, s, key(2), key(3, 1), false)
	expectLinked(t, s, key(1), key(2), true)
	expectLinked(t, s, key(2), key(3), true)
}

// P14.3

// Whatever order they come in, they are told in theirs.
func TestKeysAreRising(t *testing.T) {
	r := rand.New(rand.NewSource(2))
	l := rising()
	for range 50 {
		s := made(t, 64)
		var in []api.Key
		for _, i := range r.Perm(len(l)) {
			laid(t, s, headOf(l[i], 0))
			in = append(in, l[i])
			slices.SortFunc(in, func(a, b api.Key) int { return slices.Index(l, a) - slices.Index(l, b) })
			expectKeys(t, s, in...)
		}
	}
}

func TestGetOfOneThatIsNotHeld(t *testing.T) {
	s := filled(t, 64, key(5, 1), key(6, 2))
	end := key(5, 1)
	end.Root[31] = 1
	for _, k := range []api.Key{{}, key(5), key(5, 2), key(6, 1), key(4, 1), end} {
		expectGetNone(t, s, k)
	}
	expectGet(t, s, headOf(key(5, 1), 7))
	expectGet(t, s, headOf(key(6, 2), 7))
}

func TestRival(t *testing.T) {
	s := filled(t, 64, key(4, 9), key(5, 3), key(6, 1))
	expectNoRival(t, s, key(5, 3))
	expectNoRival(t, s, key(7, 1))
	expectNoRival(t, s, key(3, 9))
	// The key itself need not be held.
	expectRival(t, s, key(5), headOf(key(5, 3), 7))
	expectRival(t, s, key(5, 4), headOf(key(5, 3), 7))
	expectRival(t, s, key(4), headOf(key(4, 9), 7))
	laid(t, s, headOf(key(5, 8), 1))
	expectRival(t, s, key(5, 3), headOf(key(5, 8), 1))
	expectRival(t, s, key(5, 8), headOf(key(5, 3), 7))
	expectRival(t, s, key(5, 4), headOf(key(5, 3), 7))
	laid(t, s, headOf(key(5, 1), 2))
	laid(t, s, headOf(key(5, 5), 3))
	expectRival(t, s, key(5, 1), headOf(key(5, 3), 7))
	for _, root := range []byte{0, 2, 3, 4, 5, 8, 9, 255} {
		expectRival(t, s, key(5, root), headOf(key(5, 1), 2))
	}
	expectNoRival(t, s, key(4, 9))
	expectNoRival(t, s, key(6, 1))
}

// Rivals are of no entries and of the most entries, too.
func TestRivalOfTheSizesAtTheEnds(t *testing.T) {
	for _, size := range []uint64{0, math.MaxUint64} {
		s := filled(t, 2, key(size))
		expectNoRival(t, s, key(size))
		laid(t, s, headOf(key(size, 255), 3))
		expectRival(t, s, key(size), headOf(key(size, 255), 3))
		expectRival(t, s, key(size, 255), headOf(key(size), 7))
	}
}

func TestRivalOfOneThatWasGivenUp(t *testing.T) {
	s := filled(t, 3, key(5, 1), key(5, 2), key(6))
	tied(t, s, key(5, 1), key(6))
	expectRival(t, s, key(5, 2), headOf(key(5, 1), 7))
	expectGivenUp(t, s, headOf(key(7), 0), key(5, 1))
	expectNoRival(t, s, key(5, 2))
	expectRival(t, s, key(5, 1), headOf(key(5, 2), 7))
}

func TestLatest(t *testing.T) {
	s := made(t, 64)
	expectNoLatest(t, s)
	laid(t, s, headOf(key(0, 3), 1))
	expectLatest(t, s, headOf(key(0, 3), 1))
	laid(t, s, headOf(key(5, 6), 2))
	expectLatest(t, s, headOf(key(5, 6), 2))
	laid(t, s, headOf(key(5, 7), 3))
	expectLatest(t, s, headOf(key(5, 6), 2))
	laid(t, s, headOf(key(5, 4), 4))
	expectLatest(t, s, headOf(key(5, 4), 4))
	laid(t, s, headOf(key(4), 5))
	expectLatest(t, s, headOf(key(5, 4), 4))
	laid(t, s, headOf(key(1<<63, 255), 6))
	expectLatest(t, s, headOf(key(1<<63, 255), 6))
	laid(t, s, headOf(key(math.MaxUint64, 255), 8))
	expectLatest(t, s, headOf(key(math.MaxUint64, 255), 8))
	expectRefused(t, s, headOf(key(math.MaxUint64, 255), 9), api.ErrTwice)
	expectLatest(t, s, headOf(key(math.MaxUint64, 255), 8))
}

func TestNilTable(t *testing.T) {
	var s *heads.Table
	expectRefused(t, s, headOf(key(1), 0), api.ErrArg)
	expectRefused(t, s, head.Head{}, api.ErrArg)
	for _, k := range rising() {
		expectGetNone(t, s, k)
		expectNoRival(t, s, k)
		expectLink(t, s, key(0), k, api.ErrArg)
		expectLink(t, s, k, key(9), api.ErrArg)
	}
	expectKeys(t, s)
	expectNoLatest(t, s)
}

// Rule 1: a Table that New didn't make answers something as well.
func TestTableThatNewDidntMake(t *testing.T) {
	var s heads.Table
	s.Put(headOf(key(1), 0))
	s.Link(key(1), key(2))
	s.Linked(key(1), key(2))
	s.Get(key(1))
	s.Keys()
	s.Rival(key(1))
	s.Latest()
	s.Len()
}

// Rule 3: what is answered is new memory.
func TestAnswersAreNewMemory(t *testing.T) {
	s := filled(t, 3, key(1), key(2), key(2, 1))
	tied(t, s, key(1), key(2))
	clear(s.Keys())
	one, _ := s.Get(key(1))
	rival, _ := s.Rival(key(2))
	latest, _ := s.Latest()
	for _, h := range []*head.Head{&one, &rival, &latest} {
		*h = head.Head{}
	}
	expectKeys(t, s, key(1), key(2), key(2, 1))
	expectGet(t, s, headOf(key(1), 7))
	expectRival(t, s, key(2), headOf(key(2, 1), 7))
	expectLatest(t, s, headOf(key(2), 7))
	expectLinked(t, s, key(1), key(2), true)
}

// Rule 4: of two tables each has its own heads, its own links, and its own room.
func TestTablesAreApart(t *testing.T) {
	a, b := filled(t, 2, key(1), key(2)), filled(t, 3, key(1), key(2))
	tied(t, a, key(1), key(2))
	expectLinked(t, b, key(1), key(2), false)
	expectGivenUp(t, a, headOf(key(3), 0), key(1))
	laid(t, b, headOf(key(4), 0))
	expectKeys(t, a, key(2), key(3))
	expectKeys(t, b, key(1), key(2), key(4))
	expectRefused(t, b, headOf(key(3), 0), api.ErrFull)
}

// P14.4

// A table of a log that goes on holds the last ones, each of them linked to the
// one behind it; the greatest one is there at all times.
func TestALogThatGoesOn(t *testing.T) {
	for _, room := range []int{2, 3, 64} {
		s := made(t, room)
		for size := range uint64(300) {
			h := headOf(key(size, byte(size)), byte(size))
			if size < uint64(room) {
				laid(t, s, h)
			} else {
				gone := size - uint64(room)
				expectGivenUp(t, s, h, key(gone, byte(gone)))
			}
			if size > 0 {
				tied(t, s, key(size-1, byte(size-1)), h.Key)
			}
			expectLatest(t, s, h)
		}
	}
}

// All that are of the greatest size stay, though all others go.
func TestOfTheGreatestSizeNoneIsGivenUp(t *testing.T) {
	tops := []api.Key{key(9), key(9, 1), key(9, 2)}
	s := filled(t, 5, append([]api.Key{key(1), key(2)}, tops...)...)
	for _, top := range tops {
		tied(t, s, key(1), top)
		tied(t, s, key(2), top)
		for _, other := range tops {
			expectLink(t, s, top, other, api.ErrArg)
		}
	}
	expectGivenUp(t, s, headOf(key(3), 0), key(1))
	expectGivenUp(t, s, headOf(key(4), 0), key(2))
	expectRefused(t, s, headOf(key(5), 0), api.ErrFull)
	expectKeys(t, s, append([]api.Key{key(3), key(4)}, tops...)...)
	expectLatest(t, s, headOf(key(9), 7))
}

// plain is heads and links by the document's words, in rows.
type plain struct {
	heads []head.Head
	links [][2]api.Key
	room  int
}

func ahead(a, b api.Key) bool {
	if a.Size != b.Size {
		return a.Size < b.Size
	}
	return string(a.Root[:]) < string(b.Root[:])
}

func (p *plain) get(k api.Key) (head.Head, bool) {
	for _, h := range p.heads {
		if h.Key == k {
			return h, true
		}
	}
	return head.Head{}, false
}

// best is the head that is ahead of all others of which something holds.
func (p *plain) best(holds func(k api.Key) bool) (head.Head, bool) {
	for _, h := range p.heads {
		others := slices.DeleteFunc(slices.Clone(p.heads), func(o head.Head) bool { return o.Key == h.Key || !holds(o.Key) })
		last := slices.ContainsFunc(others, func(o head.Head) bool { return ahead(o.Key, h.Key) })
		if holds(h.Key) && !last {
			return h, true
		}
	}
	return head.Head{}, false
}

func (p *plain) linked(old, now api.Key) bool {
	return slices.Contains(p.links, [2]api.Key{old, now})
}

func (p *plain) spare(k api.Key) bool {
	return slices.ContainsFunc(p.heads, func(h head.Head) bool { return p.linked(k, h.Key) })
}

func (p *plain) put(h head.Head) (api.Key, bool, api.Errno) {
	if _, ok := p.get(h.Key); ok {
		return api.Key{}, false, api.ErrTwice
	}
	if len(p.heads) < p.room {
		p.heads = append(p.heads, h)
		return api.Key{}, false, api.OK
	}
	gone, ok := p.best(p.spare)
	if !ok {
		return api.Key{}, false, api.ErrFull
	}
	p.heads = slices.DeleteFunc(p.heads, func(o head.Head) bool { return o.Key == gone.Key })
	p.links = slices.DeleteFunc(p.links, func(l [2]api.Key) bool { return l[0] == gone.Key || l[1] == gone.Key })
	p.heads = append(p.heads, h)
	return gone.Key, true, api.OK
}

func (p *plain) link(old, now api.Key) api.Errno {
	_, isOld := p.get(old)
	_, isNow := p.get(now)
	switch {
	case !isOld || !isNow:
		return api.ErrNone
	case old.Size >= now.Size:
		return api.ErrArg
	}
	p.links = append(p.links, [2]api.Key{old, now})
	return api.OK
}

func (p *plain) latest() (head.Head, bool) {
	greatest := uint64(0)
	for _, h := range p.heads {
		greatest = max(greatest, h.Key.Size)
	}
	return p.best(func(k api.Key) bool { return k.Size == greatest })
}

// step does one thing with a table and with a plain one, and holds their
// answers against each other, and against what follows.
func step(t *testing.T, s *heads.Table, p *plain, x int, a, b api.Key, number byte) {
	t.Helper()
	if x > 0 {
		if got, want := s.Link(a, b), p.link(a, b); got != want {
			t.Errorf("Link of %v and %v: error %d, want %d", a, b, got, want)
		}
		return
	}
	was := slices.Clone(p.heads)
	links := slices.Clone(p.links)
	gone, given, err := s.Put(headOf(a, number))
	wantGone, wantGiven, wantErr := p.put(headOf(a, number))
	if gone != wantGone || given != wantGiven || err != wantErr {
		t.Errorf("Put of %v: %v, %v, error %d, want %v, %v, error %d", a, gone, given, err, wantGone, wantGiven, wantErr)
	}
	if !given {
		return
	}
	if !slices.ContainsFunc(links, func(l [2]api.Key) bool { return l[0] == gone }) {
		t.Errorf("%v was given up, and isn't known to go on", gone)
	}
	if !slices.ContainsFunc(was, func(h head.Head) bool { return h.Key.Size > gone.Size }) {
		t.Errorf("%v was given up, and was of the greatest size", gone)
	}
}

// expectSame holds all that a table tells of some keys against a plain one.
func expectSame(t *testing.T, s *heads.Table, p *plain, all []api.Key) {
	t.Helper()
	var held []api.Key
	for _, k := range all {
		want, ok := p.get(k)
		if got, is := s.Get(k); got != want || is != ok {
			t.Errorf("Get of %v: %v, want %v", k, is, ok)
		}
		if ok {
			held = append(held, k)
		}
		want, ok = p.best(func(o api.Key) bool { return o.Size == k.Size && o.Root != k.Root })
		if got, is := s.Rival(k); got != want || is != ok {
			t.Errorf("Rival of %v: %v, %v, want %v, %v", k, got.Key, is, want.Key, ok)
		}
		for _, now := range all {
			expectLinked(t, s, k, now, p.linked(k, now))
		}
	}
	expectKeys(t, s, held...)
	want, ok := p.latest()
	if got, is := s.Latest(); got != want || is != ok {
		t.Errorf("Latest: %v, %v, want %v, %v", got.Key, is, want.Key, ok)
	}
}

// some are so many keys of few sizes and roots, each ahead of the next one.
func some(sizes, roots int) []api.Key {
	var l []api.Key
	for size := range sizes {
		for root := range roots {
			k := key(uint64(size))
			k.Root[root%32] = byte(root)
			l = append(l, k)
		}
	}
	slices.SortFunc(l, func(a, b api.Key) int {
		if ahead(a, b) {
			return -1
		}
		return 1
	})
	return l
}

func TestAllAgainstAPlainTable(t *testing.T) {
	for seed := range int64(60) {
		r := rand.New(rand.NewSource(seed))
		all := some(1+r.Intn(6), 1+r.Intn(4))
		room := 1 + r.Intn(6)
		s, p := made(t, room), &plain{room: room}
		for range 150 {
			a, b := all[r.Intn(len(all))], all[r.Intn(len(all))]
			step(t, s, p, r.Intn(3), a, b, byte(r.Intn(8)))
			expectSame(t, s, p, all)
			if t.Failed() {
				t.Fatalf("seed %d: %d keys, room %d", seed, len(all), room)
			}
		}
	}
}
