package net_test

import (
	"bytes"
	"math"
	"math/rand"
	"slices"
	"testing"

	"assayer/api"
	"assayer/net"
)

// made is one with room for so many, which may be.
func made(t *testing.T, room int) *net.Net {
	t.Helper()
	n, err := net.New(room)
	if err != api.OK || n == nil {
		t.Fatalf("room for %d: %v, error %d", room, n, err)
	}
	return n
}

// numbered is a mail that is told apart from others by its number, in all that it has.
func numbered(k int) net.Mail {
	return net.Mail{From: k % 64, To: k / 64 % 64, Data: []byte{byte(k >> 16), byte(k >> 8), byte(k)}}
}

// numbers is the mails of these numbers.
func numbers(ks ...int) []net.Mail {
	var row []net.Mail
	for _, k := range ks {
		row = append(row, numbered(k))
	}
	return row
}

// upTo is the numbers from 0 on, so many.
func upTo(n int) []int {
	var row []int
	for i := range n {
		row = append(row, i)
	}
	return row
}

// same tells whether two mails are alike; nil and empty bytes are one.
func same(a, b net.Mail) bool {
	return a.From == b.From && a.To == b.To && bytes.Equal(a.Data, b.Data)
}

// brief is what is told of a mail, of which the bytes may be many.
func brief(m net.Mail) []any { return []any{m.From, m.To, len(m.Data)} }

// post posts one, which goes or is refused.
func post(t *testing.T, n *net.Net, m net.Mail, want bool) {
	t.Helper()
	if got := n.Post(m); got != want {
		t.Fatalf("Post of %d: %v", brief(m), got)
	}
}

// filled is one with room for so many, under way in which are those of the numbers from 0 on, so many.
func filled(t *testing.T, room, many int) *net.Net {
	t.Helper()
	n := made(t, room)
	for k := range many {
		post(t, n, numbered(k), true)
	}
	return n
}

// take takes one that is there.
func take(t *testing.T, n *net.Net, i int, want net.Mail) {
	t.Helper()
	got, ok := n.Take(i)
	if !ok || !same(got, want) {
		t.Fatalf("Take of %d: %d, %v, not %d", i, brief(got), ok, brief(want))
	}
}

// takeNone takes one that isn't there.
func takeNone(t *testing.T, n *net.Net, i int) {
	t.Helper()
	if got, ok := n.Take(i); ok || got.From != 0 || got.To != 0 || len(got.Data) != 0 {
		t.Fatalf("Take of %d: %d, %v", i, brief(got), ok)
	}
}

// again copies one, or is refused.
func again(t *testing.T, n *net.Net, i int, want bool) {
	t.Helper()
	if got := n.Copy(i); got != want {
		t.Fatalf("Copy of %d: %v", i, got)
	}
}

func expectLen(t *testing.T, n *net.Net, want int) {
	t.Helper()
	if got := n.Len(); got != want {
		t.Fatalf("Len: %d, not %d", got, want)
	}
}

func expectLost(t *testing.T, n *net.Net, want int) {
	t.Helper()
	if got := n.Lost(); got != want {
		t.Fatalf("Lost: %d, not %d", got, want)
	}
}

// expectRow takes all, from the front on, and holds them against those that should be.
func expectRow(t *testing.T, n *net.Net, want []net.Mail) {
	t.Helper()
	expectLen(t, n, len(want))
	for k, m := range want {
		take(t, n, 0, m)
		expectLen(t, n, len(want)-k-1)
	}
	takeNone(t, n, 0)
}

// noPlaces are places of which there is none, of so many under way.
func noPlaces(many int) []int {
	return []int{-1, many, many + 1, -2, -many, -many - 1, 256, 257, 1 << 31, 1 << 32, -1 << 31, -1 << 32, math.MinInt, math.MaxInt}
}

// strangers are numbers of nobody.
func strangers() []int {
	return []int{-1, 64, 65, -2, -63, -64, 127, 128, 255, 256, 1 << 31, 1 << 32, 1<<32 + 1, -1 << 31, -1 << 32, math.MinInt, math.MaxInt}
}

// twin is what is under way by the document's words, in a plain row that is made anew each time.
type twin struct {
	room, lost int
	row        []net.Mail
}

func (w *twin) post(m net.Mail) bool {
	if min(m.From, m.To) < 0 || max(m.From, m.To) > 63 {
		return false
	}
	if len(w.row) == w.room {
		w.lost++
		return false
	}
	w.row = append(w.row, net.Mail{From: m.From, To: m.To, Data: bytes.Clone(m.Data)})
	return true
}

func (w *twin) take(i int) (net.Mail, bool) {
	var left []net.Mail
	var m net.Mail
	ok := false
	for k, x := range w.row {
		if k == i {
			m, ok = x, true
			continue
		}
		left = append(left, x)
	}
	w.row = left
	return m, ok
}

func (w *twin) copy(i int) bool {
	for k, x := range w.row {
		if k == i {
			return w.post(x)
		}
	}
	return false
}

// P23.1

func TestNewOfEachRoom(t *testing.T) {
	for room := -300; room <= 600; room++ {
		n, err := net.New(room)
		want := api.OK
		if room < 1 || room > 256 {
			want = api.ErrArg
		}
		if err != want || (n == nil) != (want != api.OK) {
			t.Errorf("room for %d: %v, error %d, not %d", room, n, err, want)
		}
	}
	for _, room := range []int{math.MinInt, -1 << 32, -1 << 31, 1 << 16, 1 << 31, 1 << 32, 1<<32 + 1, math.MaxInt} {
		if n, err := net.New(room); n != nil || err != api.ErrArg {
			t.Errorf("room for %d: %v, error %d", room, n, err)
		}
	}
}

func TestNewHasNothingUnderWay(t *testing.T) {
	for room := 1; room <= 256; room++ {
		n := made(t, room)
		expectLen(t, n, 0)
		expectLost(t, n, 0)
		for _, i := range append(noPlaces(room), 0) {
			takeNone(t, n, i)
			again(t, n, i, false)
		}
		expectLen(t, n, 0)
		expectLost(t, n, 0)
	}
}

func TestPostOfEachTwo(t *testing.T) {
	n := made(t, 1)
	for from := -3; from <= 70; from++ {
		for to := -3; to <= 70; to++ {
			m := net.Mail{From: from, To: to, Data: []byte{1}}
			want := from >= 0 && from <= 63 && to >= 0 && to <= 63
			post(t, n, m, want)
			if want {
				take(t, n, 0, m)
			}
			expectLen(t, n, 0)
		}
	}
	expectLost(t, n, 0)
}

func TestPostOfStrangers(t *testing.T) {
	n := filled(t, 5, 2)
	for _, x := range strangers() {
		post(t, n, net.Mail{From: x, To: 1, Data: []byte{1}}, false)
		post(t, n, net.Mail{From: 1, To: x, Data: []byte{1}}, false)
		post(t, n, net.Mail{From: x, To: x, Data: []byte{1}}, false)
	}
	expectLost(t, n, 0)
	expectRow(t, n, numbers(0, 1))
}

// Whoever isn't there loses nothing for want of room, also where there is none.
func TestPostOfStrangersWithoutRoom(t *testing.T) {
	n := filled(t, 2, 2)
	for _, x := range strangers() {
		post(t, n, net.Mail{From: x, To: 1}, false)
		post(t, n, net.Mail{From: 1, To: x}, false)
	}
	expectLost(t, n, 0)
	post(t, n, net.Mail{From: 1, To: 1}, false)
	expectLost(t, n, 1)
	expectRow(t, n, numbers(0, 1))
}

func TestPostIsBehindAllOthers(t *testing.T) {
	n := made(t, 256)
	for k := range 256 {
		post(t, n, numbered(k), true)
		expectLen(t, n, k+1)
		expectLost(t, n, 0)
	}
	expectRow(t, n, numbers(upTo(256)...))
}

// The newest one is lost, not one that is under way.
func TestPostWithoutRoom(t *testing.T) {
	for room := 1; room <= 256; room++ {
		n := filled(t, room, room)
		for k := range 5 {
			expectLost(t, n, k)
			post(t, n, numbered(room+k), false)
			expectLen(t, n, room)
		}
		expectLost(t, n, 5)
		expectRow(t, n, numbers(upTo(room)...))
		expectLost(t, n, 5)
	}
}

// What is alike, in all or in some of it, is under way as often as it was posted.
func TestPostOfWhatIsAlike(t *testing.T) {
	a := net.Mail{From: 1, To: 2, Data: []byte("abc")}
	row := []net.Mail{a, a, {From: 1, To: 2}, {From: 2, To: 1, Data: a.Data}, a, {From: 1, To: 2, Data: []byte("abcd")}, a}
	n := made(t, 10)
	for _, m := range row {
		post(t, n, m, true)
	}
	expectRow(t, n, row)
}

func TestPostOfEachLength(t *testing.T) {
	r := rand.New(rand.NewSource(1))
	var row []net.Mail
	n := made(t, 256)
	for _, size := range []int{0, 1, 2, 3, 7, 8, 9, 31, 32, 33, 255, 256, 257, 4234, 8467, 65535, 65536, 65537, 1 << 20} {
		m := net.Mail{From: 63, To: 63, Data: make([]byte, size)}
		r.Read(m.Data)
		row = append(row, m)
	}
	row = append(row, net.Mail{From: 0, To: 0, Data: nil})
	for _, m := range row {
		post(t, n, m, true)
	}
	expectRow(t, n, row)
}

func TestPostKeepsACopy(t *testing.T) {
	backing := []byte("abcdefgh")
	n := made(t, 2)
	post(t, n, net.Mail{From: 1, To: 2, Data: backing[:3]}, true)
	post(t, n, net.Mail{From: 1, To: 2, Data: backing[2:6]}, true)
	if string(backing) != "abcdefgh" {
		t.Fatalf("Post changes bytes to %s", backing)
	}
	clear(backing)
	expectRow(t, n, []net.Mail{{From: 1, To: 2, Data: []byte("abc")}, {From: 1, To: 2, Data: []byte("cdef")}})
	if !bytes.Equal(backing, make([]byte, 8)) {
		t.Errorf("Take changes bytes to %q", backing)
	}
}

// What is lost is not kept, and changes nothing of what it was made of.
func TestPostWithoutRoomKeepsNothing(t *testing.T) {
	n := filled(t, 1, 1)
	data := []byte("abc")
	post(t, n, net.Mail{From: 1, To: 2, Data: data}, false)
	if string(data) != "abc" {
		t.Fatalf("Post changes bytes to %s", data)
	}
	take(t, n, 0, numbered(0))
	takeNone(t, n, 0)
	post(t, n, net.Mail{From: 1, To: 2, Data: data}, true)
	take(t, n, 0, net.Mail{From: 1, To: 2, Data: data})
}

func TestTakeOfEachPlace(t *testing.T) {
	for _, many := range []int{1, 2, 3, 4, 5, 8, 17, 64, 256} {
		for i := range many {
			n := filled(t, many, many)
			take(t, n, i, numbered(i))
			expectLost(t, n, 0)
			expectRow(t, n, numbers(slices.Delete(upTo(many), i, i+1)...))
		}
	}
}

func TestTakeOfNoPlace(t *testing.T) {
	for _, many := range []int{1, 2, 5, 255} {
		n := filled(t, 256, many)
		for _, i := range noPlaces(many) {
			takeNone(t, n, i)
			again(t, n, i, false)
		}
		expectLost(t, n, 0)
		expectRow(t, n, numbers(upTo(many)...))
	}
}

func TestTakeMakesRoom(t *testing.T) {
	n := filled(t, 3, 3)
	for k := 3; k < 100; k++ {
		post(t, n, numbered(9999), false)
		expectLost(t, n, k-2)
		take(t, n, 0, numbered(k-3))
		expectLen(t, n, 2)
		post(t, n, numbered(k), true)
		expectLen(t, n, 3)
	}
	expectRow(t, n, numbers(97, 98, 99))
}

func TestCopyIsBehindAllOthers(t *testing.T) {
	for _, many := range []int{1, 2, 3, 8, 255} {
		for i := range many {
			n := filled(t, many+1, many)
			again(t, n, i, true)
			expectLen(t, n, many+1)
			expectLost(t, n, 0)
			expectRow(t, n, numbers(append(upTo(many), i)...))
		}
	}
}

// A copy is as any other one: it is taken and copied by its place.
func TestCopyOfACopy(t *testing.T) {
	n := filled(t, 6, 3)
	again(t, n, 1, true)
	again(t, n, 3, true)
	take(t, n, 1, numbered(1))
	again(t, n, 2, true)
	expectRow(t, n, numbers(0, 2, 1, 1, 1))
}

func TestCopyWithoutRoom(t *testing.T) {
	for _, room := range []int{1, 2, 3, 256} {
		n := filled(t, room, room)
		for k := range 3 {
			expectLost(t, n, k)
			again(t, n, room-1, false)
			expectLen(t, n, room)
		}
		expectLost(t, n, 3)
		again(t, n, 0, false)
		expectLost(t, n, 4)
		expectRow(t, n, numbers(upTo(room)...))
	}
}

// Nothing is lost for want of room, if there is nothing to be copied.
func TestCopyOfNoneLosesNothing(t *testing.T) {
	n := filled(t, 2, 2)
	for _, i := range noPlaces(2) {
		again(t, n, i, false)
	}
	expectLost(t, n, 0)
	expectRow(t, n, numbers(0, 1))
}

// Rule 3: what is answered is new memory: whoever changes it changes nothing else.
func TestAnswersAreNewMemory(t *testing.T) {
	data := []byte("abcdefgh")
	want := net.Mail{From: 1, To: 2, Data: bytes.Clone(data)}
	n := made(t, 4)
	post(t, n, net.Mail{From: 1, To: 2, Data: data}, true)
	again(t, n, 0, true)
	again(t, n, 1, true)
	for i := 2; i >= 0; i-- {
		m, ok := n.Take(i)
		if !ok || !same(m, want) {
			t.Fatalf("Take of %d: %q, %v", i, m.Data, ok)
		}
		clear(m.Data[:cap(m.Data)])
		_ = append(m.Data[:4], "xyz"...)
		if !bytes.Equal(data, want.Data) {
			t.Fatalf("what is taken changes what was posted to %q", data)
		}
	}
	expectLen(t, n, 0)
}

// What was taken stays as it is, whatever goes on.
func TestWhatIsTakenStays(t *testing.T) {
	n := filled(t, 8, 8)
	var taken []net.Mail
	for k := 8; k < 300; k++ {
		m, _ := n.Take(k % 5)
		taken = append(taken, m)
		post(t, n, numbered(k), true)
		again(t, n, 0, false)
	}
	seen := map[int]bool{}
	for _, m := range taken {
		k := int(m.Data[1])<<8 | int(m.Data[2])
		if !same(m, numbered(k)) || seen[k] {
			t.Fatalf("what was taken is %d now", m)
		}
		seen[k] = true
	}
}

func TestNilHasNothing(t *testing.T) {
	var n *net.Net
	for range 2 {
		post(t, n, numbered(1), false)
		post(t, n, net.Mail{From: -1, To: 64}, false)
		post(t, n, net.Mail{}, false)
		for _, i := range append(noPlaces(0), 0, 1) {
			takeNone(t, n, i)
			again(t, n, i, false)
		}
		expectLen(t, n, 0)
		expectLost(t, n, 0)
	}
}

// Rule 1: a Net that New didn't make answers something as well.
func TestNetThatNewDidntMake(t *testing.T) {
	var n net.Net
	for range 2 {
		n.Post(numbered(1))
		n.Copy(0)
		n.Take(0)
		n.Len()
		n.Lost()
	}
}

// The chapter's example.
func TestRoomForOne(t *testing.T) {
	n := made(t, 1)
	post(t, n, numbered(1), true)
	post(t, n, numbered(2), false)
	expectLen(t, n, 1)
	expectLost(t, n, 1)
	take(t, n, 0, numbered(1))
	takeNone(t, n, 0)
}

// drawnMail is one that may be of nobody, now and then.
func drawnMail(r *rand.Rand) net.Mail {
	m := net.Mail{From: r.Intn(64), To: r.Intn(64), Data: make([]byte, r.Intn(6))}
	r.Read(m.Data)
	switch r.Intn(12) {
	case 0:
		m.From = strangers()[r.Intn(len(strangers()))]
	case 1:
		m.To = strangers()[r.Intn(len(strangers()))]
	}
	return m
}

// step calls both of a net and its twin, and holds what they answer against each other.
func step(t *testing.T, r *rand.Rand, n *net.Net, w *twin) {
	t.Helper()
	i := r.Intn(len(w.row)+3) - 1
	switch r.Intn(5) {
	case 0, 1:
		m := drawnMail(r)
		want := w.post(m)
		post(t, n, m, want)
		clear(m.Data)
	case 2:
		again(t, n, i, w.copy(i))
	default:
		if r.Intn(3) == 0 {
			i = 0
		}
		if want, ok := w.take(i); ok {
			take(t, n, i, want)
		} else {
			takeNone(t, n, i)
		}
	}
	expectLen(t, n, len(w.row))
	expectLost(t, n, w.lost)
}

func TestRandomCallsAgainstATwin(t *testing.T) {
	for seed := range int64(300) {
		r := rand.New(rand.NewSource(seed))
		room := 1 + r.Intn(12)
		if seed%10 == 0 {
			room = 1 + r.Intn(256)
		}
		n, w := made(t, room), &twin{room: room}
		for range r.Intn(room + 1) {
			m := drawnMail(r)
			post(t, n, m, w.post(m))
		}
		for range 400 {
			step(t, r, n, w)
		}
		expectRow(t, n, w.row)
		expectLost(t, n, w.lost)
	}
}

// Rule 4: the same calls have the same answers, and what is under way in one is not in another one.
func TestNetsAreApart(t *testing.T) {
	a, b, c := made(t, 2), made(t, 2), made(t, 3)
	for k := range 3 {
		post(t, a, numbered(k), k < 2)
		expectLen(t, b, 0)
		post(t, c, numbered(k+10), true)
	}
	expectLost(t, a, 1)
	expectLost(t, b, 0)
	expectLost(t, c, 0)
	for k := range 3 {
		post(t, b, numbered(k), k < 2)
	}
	expectRow(t, a, numbers(0, 1))
	expectRow(t, b, numbers(0, 1))
	expectRow(t, c, numbers(10, 11, 12))
}

// P23.2

// Whatever is posted, lost, or taken at other places meanwhile, what comes at the front comes in its order.
func TestWhatIsTakenAtTheFrontIsInOrder(t *testing.T) {
	for seed := range int64(100) {
		r := rand.New(rand.NewSource(seed))
		n := made(t, 1+r.Intn(20))
		last, next := -1, 0
		for range 500 {
			switch r.Intn(5) {
			case 0, 1, 2:
				n.Post(numbered(next))
				next++
			case 3:
				n.Take(1 + r.Intn(20))
			default:
				m, ok := n.Take(0)
				if !ok {
					continue
				}
				k := int(m.Data[1])<<8 | int(m.Data[2])
				if !same(m, numbered(k)) || k <= last {
					t.Fatalf("%d comes behind %d", k, last)
				}
				last = k
			}
		}
	}
}

// Of two that are posted the first one comes first, who- and wherever it is from or goes to.
func TestNobodyIsAheadOfOthers(t *testing.T) {
	for _, two := range [][2]net.Mail{
		{{From: 63, To: 63, Data: []byte{9}}, {From: 0, To: 0, Data: []byte{1}}},
		{{From: 0, To: 63}, {From: 63, To: 0}},
		{{From: 5, To: 5, Data: []byte("long")}, {From: 5, To: 5}},
		{{From: 1, To: 2, Data: []byte{1}}, {From: 1, To: 2, Data: []byte{0}}},
	} {
		for _, row := range [][]net.Mail{{two[0], two[1]}, {two[1], two[0]}} {
			n := made(t, 2)
			post(t, n, row[0], true)
			post(t, n, row[1], true)
			expectRow(t, n, row)
		}
	}
}

// However many have gone through it, it has room for as many, in their order.
func TestManyGoThroughIt(t *testing.T) {
	n := made(t, 256)
	next := 0
	for k := range 100000 {
		for n.Len() < 256 {
			post(t, n, numbered(next), true)
			next++
		}
		take(t, n, 0, numbered(k))
	}
	expectLost(t, n, 0)
}
