package octet_test

import (
	"bytes"
	"math"
	"math/rand"
	"testing"

	"assayer/api"
	"assayer/octet"
)

// written is what a Writer has put once put has been called on it.
func written(put func(w *octet.Writer)) []byte {
	w := octet.NewWriter()
	put(w)
	return w.Out()
}

// ascending is n bytes 0, 1, 2 and so on, of which no two neighbours are alike.
func ascending(n int) []byte {
	b := make([]byte, n)
	for i := range b {
		b[i] = byte(i)
	}
	return b
}

func someHash() api.Hash {
	var h api.Hash
	copy(h[:], ascending(len(h)))
	h[0] = 200
	return h
}

// P1.1

func TestWriterNum(t *testing.T) {
	const x = 0x0102030405060708
	for _, c := range []struct {
		name string
		x    uint64
		size int
		want []byte
	}{
		{"the document's example", 258, 2, []byte{1, 2}},
		{"one byte", x, 1, []byte{8}},
		{"the lowest bytes of a greater number", x, 3, []byte{6, 7, 8}},
		{"seven bytes", x, 7, []byte{2, 3, 4, 5, 6, 7, 8}},
		{"eight bytes", x, 8, []byte{1, 2, 3, 4, 5, 6, 7, 8}},
		{"noughts ahead", 5, 4, []byte{0, 0, 0, 5}},
		{"nought", 0, 8, make([]byte, 8)},
		{"the greatest number", math.MaxUint64, 8, bytes.Repeat([]byte{255}, 8)},
		{"no byte", x, 0, nil},
		{"nine bytes", x, 9, nil},
		{"below nought", x, -1, nil},
		{"the greatest size", x, math.MaxInt, nil},
		{"the least size", x, math.MinInt, nil},
	} {
		if got := written(func(w *octet.Writer) { w.Num(c.x, c.size) }); !bytes.Equal(got, c.want) {
			t.Errorf("%s: %v, want %v", c.name, got, c.want)
		}
	}
}

func TestWriterRaw(t *testing.T) {
	for _, b := range [][]byte{nil, {}, {0}, {7, 0, 255}, ascending(70000)} {
		if got := written(func(w *octet.Writer) { w.Raw(b) }); !bytes.Equal(got, b) {
			t.Errorf("%d bytes came out as %d others", len(b), len(got))
		}
	}
}

func TestWriterBytes(t *testing.T) {
	for _, c := range []struct {
		name string
		b    []byte
		head []byte
		many int
	}{
		{"nil", nil, []byte{0, 0}, 0},
		{"empty", []byte{}, []byte{0, 0}, 0},
		{"three", []byte("abc"), []byte{0, 3}, 3},
		{"258", ascending(258), []byte{1, 2}, 258},
		{"one less than most", ascending(65534), []byte{255, 254}, 65534},
		{"most", ascending(65535), []byte{255, 255}, 65535},
		{"one more than most", ascending(65536), []byte{255, 255}, 65535},
		{"many more than most", ascending(140000), []byte{255, 255}, 65535},
	} {
		want := append(bytes.Clone(c.head), c.b[:c.many]...)
		if got := written(func(w *octet.Writer) { w.Bytes(c.b) }); !bytes.Equal(got, want) {
			t.Errorf("%s: %d bytes, want %d, or others", c.name, len(got), len(want))
		}
	}
}

func TestWriterHash(t *testing.T) {
	h := someHash()
	if got := written(func(w *octet.Writer) { w.Hash(h) }); !bytes.Equal(got, h[:]) {
		t.Errorf("%v, want %v", got, h)
	}
}

func TestWriterPutsOneBehindTheOther(t *testing.T) {
	h := someHash()
	got := written(func(w *octet.Writer) {
		w.Num(9, 1)
		w.Num(9, 9)
		w.Raw([]byte{4, 5})
		w.Bytes([]byte{6})
		w.Hash(h)
		w.Num(1, 2)
	})
	want := append([]byte{9, 4, 5, 0, 1, 6}, h[:]...)
	want = append(want, 0, 1)
	if !bytes.Equal(got, want) {
		t.Errorf("%v, want %v", got, want)
	}
}

func TestWriterOutOfNothing(t *testing.T) {
	if got := octet.NewWriter().Out(); len(got) != 0 {
		t.Errorf("%v, want nothing", got)
	}
}

func TestWriterOutIsNewMemory(t *testing.T) {
	w := octet.NewWriter()
	w.Raw([]byte{1, 2, 3})
	first := w.Out()
	w.Num(4, 1)
	second := w.Out()
	_ = append(first, 99)
	first[0] = 99
	if want := []byte{1, 2, 3, 4}; !bytes.Equal(second, want) || !bytes.Equal(w.Out(), want) {
		t.Errorf("%v and %v, want %v", second, w.Out(), want)
	}
	if want := []byte{99, 2, 3}; !bytes.Equal(first, want) {
		t.Errorf("%v, want %v", first, want)
	}
}

func TestWriterKeepsAndChangesNothingHandedIn(t *testing.T) {
	for name, put := range map[string]func(*octet.Writer, []byte){
		"Raw":   (*octet.Writer).Raw,
		"Bytes": (*octet.Writer).Bytes,
	} {
		b := []byte{1, 2, 3, 4}
		w := octet.NewWriter()
		put(w, b[:2])
		put(w, b[:2])
		if !bytes.Equal(b, []byte{1, 2, 3, 4}) {
			t.Errorf("%s changed what was handed in: %v", name, b)
		}
		before := w.Out()
		b[0] = 99
		if got := w.Out(); !bytes.Equal(got, before) {
			t.Errorf("%s kept what was handed in: %v, then %v", name, before, got)
		}
	}
}

func TestWriterNil(t *testing.T) {
	var w *octet.Writer
	w.Num(1, 1)
	w.Num(1, 9)
	w.Raw([]byte{1})
	w.Bytes([]byte{1})
	w.Hash(someHash())
	if got := w.Out(); len(got) != 0 {
		t.Errorf("%v, want nothing", got)
	}
}

// P1.2

// expectStuck tells if a Reader that has the error err answers anything but
// nothing, or another error.
func expectStuck(t *testing.T, name string, r *octet.Reader, err api.Errno) {
	t.Helper()
	for range 2 {
		if x := r.Num(1); x != 0 {
			t.Errorf("%s: Num answers %d", name, x)
		}
		if x := r.Num(9); x != 0 {
			t.Errorf("%s: Num of 9 answers %d", name, x)
		}
		if b := r.Raw(1); len(b) != 0 {
			t.Errorf("%s: Raw answers %v", name, b)
		}
		if b := r.Raw(-1); len(b) != 0 {
			t.Errorf("%s: Raw of -1 answers %v", name, b)
		}
		if b := r.Raw(1000); len(b) != 0 {
			t.Errorf("%s: Raw of 1000 answers %v", name, b)
		}
		if b := r.Bytes(1000); len(b) != 0 {
			t.Errorf("%s: Bytes answers %v", name, b)
		}
		if b := r.Bytes(-1); len(b) != 0 {
			t.Errorf("%s: Bytes of -1 answers %v", name, b)
		}
		if h := r.Hash(); h != (api.Hash{}) {
			t.Errorf("%s: Hash answers %v", name, h)
		}
		if r.Err() != err || r.End() != err {
			t.Errorf("%s: Err %d, End %d, want %d", name, r.Err(), r.End(), err)
		}
	}
}

func TestReaderNum(t *testing.T) {
	const all = 0x8102030405060708
	b := []byte{0x81, 2, 3, 4, 5, 6, 7, 8}
	for size := 1; size <= 8; size++ {
		r := octet.NewReader(b[:size])
		if got, want := r.Num(size), uint64(all)>>(8*(8-size)); got != want || r.Err() != api.OK || r.End() != api.OK {
			t.Errorf("Num of %d: %d, want %d; Err %d, End %d", size, got, want, r.Err(), r.End())
		}
		short := octet.NewReader(b[:size-1])
		if got := short.Num(size); got != 0 || short.Err() != api.ErrShort {
			t.Errorf("Num of %d, one byte too few: %d, Err %d", size, got, short.Err())
		}
	}
	r := octet.NewReader(b)
	if x, y, z := r.Num(2), r.Num(1), r.Num(5); x != 0x8102 || y != 3 || z != 0x0405060708 || r.End() != api.OK {
		t.Errorf("%x %x %x, End %d", x, y, z, r.End())
	}
}

func TestReaderNumOfWrongSize(t *testing.T) {
	for _, size := range []int{0, 9, -1, math.MaxInt, math.MinInt} {
		for _, b := range [][]byte{nil, {1}, ascending(100)} {
			r := octet.NewReader(b)
			if x := r.Num(size); x != 0 || r.Err() != api.ErrArg {
				t.Errorf("Num of %d, of %d bytes: %d, Err %d", size, len(b), x, r.Err())
			}
		}
	}
}

func TestReaderRaw(t *testing.T) {
	b := ascending(10)
	r := octet.NewReader(b)
	if got := r.Raw(0); len(got) != 0 || r.Err() != api.OK {
		t.Errorf("Raw of 0: %v, Err %d", got, r.Err())
	}
	if got := r.Raw(4); !bytes.Equal(got, b[:4]) || r.Err() != api.OK {
		t.Errorf("Raw of 4: %v, Err %d", got, r.Err())
	}
	if got := r.Raw(6); !bytes.Equal(got, b[4:]) || r.End() != api.OK {
		t.Errorf("Raw of 6: %v, End %d", got, r.End())
	}
	if got := r.Raw(0); len(got) != 0 || r.End() != api.OK {
		t.Errorf("Raw of 0 at the end: %v, End %d", got, r.End())
	}
	for _, n := range []int{11, 12, math.MaxInt} {
		r := octet.NewReader(b)
		if got := r.Raw(n); len(got) != 0 || r.Err() != api.ErrShort {
			t.Errorf("Raw of %d: %v, Err %d", n, got, r.Err())
		}
	}
	for _, n := range []int{-1, math.MinInt} {
		r := octet.NewReader(nil)
		if got := r.Raw(n); len(got) != 0 || r.Err() != api.ErrArg {
			t.Errorf("Raw of %d: %v, Err %d", n, got, r.Err())
		}
	}
}

func TestReaderBytes(t *testing.T) {
	for _, c := range []struct {
		name string
		b    []byte
		most int
		want []byte
		err  api.Errno
		end  api.Errno
	}{
		{"fewer than most", []byte{0, 2, 7, 8}, 3, []byte{7, 8}, api.OK, api.OK},
		{"most", []byte{0, 2, 7, 8}, 2, []byte{7, 8}, api.OK, api.OK},
		{"above most", []byte{0, 2, 7, 8}, 1, nil, api.ErrBig, api.ErrBig},
		{"above most, and too short", []byte{0, 2}, 1, nil, api.ErrBig, api.ErrBig},
		{"too short", []byte{0, 2, 7}, 2, nil, api.ErrShort, api.ErrShort},
		{"bytes are left", []byte{0, 1, 7, 8}, 2, []byte{7}, api.OK, api.ErrLeft},
		{"none", []byte{0, 0}, 0, nil, api.OK, api.OK},
		{"none, most below 0", []byte{0, 0}, -1, nil, api.ErrBig, api.ErrBig},
		{"some, most below 0", []byte{0, 1, 7}, math.MinInt, nil, api.ErrBig, api.ErrBig},
		{"no number", nil, 5, nil, api.ErrShort, api.ErrShort},
		{"half a number", []byte{0}, 5, nil, api.ErrShort, api.ErrShort},
		{"half a number, most below 0", []byte{0}, -1, nil, api.ErrShort, api.ErrShort},
		{"the greatest most", []byte{0, 1, 7}, math.MaxInt, []byte{7}, api.OK, api.OK},
	} {
		r := octet.NewReader(c.b)
		if got := r.Bytes(c.most); !bytes.Equal(got, c.want) || r.Err() != c.err || r.End() != c.end {
			t.Errorf("%s: %v, Err %d, End %d", c.name, got, r.Err(), r.End())
		}
	}
	long := append([]byte{1, 2}, ascending(258)...)
	r := octet.NewReader(long)
	if got := r.Bytes(258); !bytes.Equal(got, long[2:]) || r.End() != api.OK {
		t.Errorf("258: %d bytes, End %d", len(got), r.End())
	}
}

func TestReaderHash(t *testing.T) {
	h := someHash()
	r := octet.NewReader(append(h[:], 5))
	if got := r.Hash(); got != h || r.Err() != api.OK || r.Num(1) != 5 || r.End() != api.OK {
		t.Errorf("%v, Err %d, End %d", got, r.Err(), r.End())
	}
	for _, n := range []int{0, 1, 31} {
		r := octet.NewReader(h[:n])
		if got := r.Hash(); got != (api.Hash{}) || r.Err() != api.ErrShort {
			t.Errorf("of %d bytes: %v, Err %d", n, got, r.Err())
		}
	}
}

func TestReaderErrAndEnd(t *testing.T) {
	for _, b := range [][]byte{nil, {}} {
		if r := octet.NewReader(b); r.Err() != api.OK || r.End() != api.OK {
			t.Errorf("of nothing: Err %d, End %d", r.Err(), r.End())
		}
	}
	r := octet.NewReader([]byte{1, 2})
	if r.Err() != api.OK || r.End() != api.ErrLeft {
		t.Errorf("at the beginning: Err %d, End %d", r.Err(), r.End())
	}
	if r.Num(1) != 1 || r.Err() != api.OK || r.End() != api.ErrLeft {
		t.Errorf("a byte is left: Err %d, End %d", r.Err(), r.End())
	}
	if r.Num(1) != 2 || r.Err() != api.OK || r.End() != api.OK {
		t.Errorf("no byte is left: Err %d, End %d", r.Err(), r.End())
	}
	if r.Num(1) != 0 || r.Err() != api.ErrShort || r.End() != api.ErrShort {
		t.Errorf("beyond the end: Err %d, End %d", r.Err(), r.End())
	}
}

func TestReaderKeepsTheFirstError(t *testing.T) {
	b := append([]byte{0, 2}, ascending(100)...)
	for _, c := range []struct {
		name string
		call func(r *octet.Reader)
		err  api.Errno
	}{
		{"Num of 0", func(r *octet.Reader) { r.Num(0) }, api.ErrArg},
		{"Num of 9", func(r *octet.Reader) { r.Num(9) }, api.ErrArg},
		{"Raw of -1", func(r *octet.Reader) { r.Raw(-1) }, api.ErrArg},
		{"Raw of too many", func(r *octet.Reader) { r.Raw(103) }, api.ErrShort},
		{"Bytes of too many", func(r *octet.Reader) { r.Bytes(1) }, api.ErrBig},
		{"Bytes of -1", func(r *octet.Reader) { r.Bytes(-1) }, api.ErrBig},
		{"Num beyond the end", func(r *octet.Reader) { r.Raw(101); r.Num(2) }, api.ErrShort},
		{"Bytes beyond the end", func(r *octet.Reader) { r.Raw(101); r.Bytes(9) }, api.ErrShort},
		{"Hash beyond the end", func(r *octet.Reader) { r.Raw(101); r.Hash() }, api.ErrShort},
	} {
		r := octet.NewReader(b)
		c.call(r)
		expectStuck(t, c.name, r, c.err)
	}
}

func TestReaderNil(t *testing.T) {
	expectStuck(t, "nil", nil, api.ErrArg)
}

func TestReaderAnswersNewMemory(t *testing.T) {
	b := []byte{1, 2, 0, 2, 3, 4, 5, 6}
	want := bytes.Clone(b)
	r := octet.NewReader(b)
	atTheBeginning := *r
	raw := r.Raw(2)
	raw[0] = 99
	_ = append(raw, 99, 99)
	row := r.Bytes(2)
	if !bytes.Equal(row, []byte{3, 4}) {
		t.Errorf("%v, want 3 4", row)
	}
	row[0] = 99
	_ = append(row, 99, 99)
	if got := r.Raw(2); !bytes.Equal(got, []byte{5, 6}) || !bytes.Equal(b, want) {
		t.Errorf("%v, want 5 6; handed in: %v", got, b)
	}
	if got := atTheBeginning.Raw(len(b)); !bytes.Equal(got, want) {
		t.Errorf("what is still to be read was changed: %v, want %v", got, want)
	}
}

func TestReaderKeepsNothingHandedIn(t *testing.T) {
	b := []byte{1, 2, 3}
	r := octet.NewReader(b)
	b[0], b[1], b[2] = 99, 99, 99
	if got := r.Raw(3); !bytes.Equal(got, []byte{1, 2, 3}) {
		t.Errorf("%v, want 1 2 3", got)
	}
}

// P1.3

// step is something that is put, and how it is read.
type step struct {
	put  func(w *octet.Writer)
	same func(r *octet.Reader) bool
}

func randomBytes(d *rand.Rand, n int) []byte {
	b := make([]byte, n)
	d.Read(b)
	return b
}

func randomStep(d *rand.Rand) step {
	switch d.Intn(4) {
	case 0:
		size := 1 + d.Intn(8)
		x := d.Uint64()
		low := x << (8 * (8 - size)) >> (8 * (8 - size))
		return step{func(w *octet.Writer) { w.Num(x, size) }, func(r *octet.Reader) bool { return r.Num(size) == low }}
	case 1:
		b := randomBytes(d, d.Intn(50))
		return step{func(w *octet.Writer) { w.Raw(b) }, func(r *octet.Reader) bool { return bytes.Equal(r.Raw(len(b)), b) }}
	case 2:
		b := randomBytes(d, d.Intn(600))
		most := len(b) + d.Intn(3)
		return step{func(w *octet.Writer) { w.Bytes(b) }, func(r *octet.Reader) bool { return bytes.Equal(r.Bytes(most), b) }}
	}
	h := api.Hash(randomBytes(d, 32))
	return step{func(w *octet.Writer) { w.Hash(h) }, func(r *octet.Reader) bool { return r.Hash() == h }}
}

func TestWhatIsPutIsRead(t *testing.T) {
	d := rand.New(rand.NewSource(1))
	for round := range 200 {
		w := octet.NewWriter()
		steps := make([]step, d.Intn(20))
		for i := range steps {
			steps[i] = randomStep(d)
			steps[i].put(w)
		}
		r := octet.NewReader(w.Out())
		for i, s := range steps {
			if !s.same(r) || r.Err() != api.OK {
				t.Fatalf("round %d, step %d: not read as it was put; Err %d", round, i, r.Err())
			}
		}
		if r.End() != api.OK {
			t.Fatalf("round %d: End %d", round, r.End())
		}
	}
}

func TestLongBytesArePutAndRead(t *testing.T) {
	b := ascending(65536)
	r := octet.NewReader(written(func(w *octet.Writer) { w.Bytes(b) }))
	if got := r.Bytes(65535); !bytes.Equal(got, b[:65535]) || r.End() != api.OK {
		t.Errorf("%d bytes, End %d", len(got), r.End())
	}
}
