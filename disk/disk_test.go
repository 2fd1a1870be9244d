package disk_test

import (
	"bytes"
	"math"
	"math/rand"
	"slices"
	"testing"

	"assayer/api"
	"assayer/disk"
)

// made is a disk of n blocks, which may be.
func made(t *testing.T, n int) *disk.Disk {
	t.Helper()
	d, err := disk.New(n)
	if err != api.OK || d == nil {
		t.Fatalf("%d blocks: %v, error %d", n, d, err)
	}
	return d
}

// full is a block of one byte's value.
func full(c byte) []byte { return bytes.Repeat([]byte{c}, 256) }

func noughts() []byte { return make([]byte, 256) }

// mixed is as many first bytes of one block as size, and then those of another.
func mixed(first []byte, size int, then []byte) []byte {
	return slices.Concat(first[:size], then[size:])
}

func randomBlock(r *rand.Rand) []byte {
	b := make([]byte, 256)
	r.Read(b)
	return b
}

// wrote writes to a block, which goes.
func wrote(t *testing.T, d *disk.Disk, i int, b []byte) {
	t.Helper()
	if err := d.Write(i, b); err != api.OK {
		t.Fatalf("Write to %d: error %d", i, err)
	}
}

// synced syncs, which goes.
func synced(t *testing.T, d *disk.Disk) {
	t.Helper()
	if err := d.Sync(); err != api.OK {
		t.Fatalf("Sync: error %d", err)
	}
	if n := d.Loose(); n != 0 {
		t.Fatalf("%d writes are loose behind a Sync", n)
	}
}

// expect reads a block.
func expect(t *testing.T, d *disk.Disk, i int, want []byte) {
	t.Helper()
	got, err := d.Read(i)
	if err != api.OK {
		t.Errorf("Read of %d: error %d", i, err)
		return
	}
	if !bytes.Equal(got, want) {
		t.Errorf("block %d: %v, want %v", i, got, want)
	}
}

// expectRefused reads a block in vain.
func expectRefused(t *testing.T, d *disk.Disk, i int, want api.Errno) {
	t.Helper()
	if b, err := d.Read(i); b != nil || err != want {
		t.Errorf("Read of %d: %d bytes, error %d, want error %d", i, len(b), err, want)
	}
}

// expectError holds an error against that which a call should tell.
func expectError(t *testing.T, name string, got, want api.Errno) {
	t.Helper()
	if got != want {
		t.Errorf("%s: error %d, want %d", name, got, want)
	}
}

func expectLoose(t *testing.T, d *disk.Disk, want int) {
	t.Helper()
	if got := d.Loose(); got != want {
		t.Errorf("%d writes are loose, want %d", got, want)
	}
}

func expectDead(t *testing.T, d *disk.Disk, want bool) {
	t.Helper()
	if got := d.Dead(); got != want {
		t.Errorf("dead: %v, want %v", got, want)
	}
}

// P11.1

func TestNewOfSizesThatMayNotBe(t *testing.T) {
	for _, n := range []int{0, -1, -65536, 65537, 65536 + 1<<16, math.MinInt, math.MaxInt} {
		if d, err := disk.New(n); d != nil || err != api.ErrArg {
			t.Errorf("%d blocks: %v, error %d", n, d, err)
		}
	}
}

func TestNewIsNoughtsForGood(t *testing.T) {
	for _, n := range []int{1, 2, 3, 255, 256, 257, 6000, 65535, 65536} {
		d := made(t, n)
		if d.Len() != n {
			t.Errorf("%d blocks: Len is %d", n, d.Len())
		}
		expectLoose(t, d, 0)
		expectDead(t, d, false)
		for i := range n {
			expect(t, d, i, noughts())
		}
		d.Crash(nil)
		for _, i := range []int{0, n / 2, n - 1} {
			expect(t, d, i, noughts())
		}
		expectRefused(t, d, n, api.ErrRange)
	}
}

func TestEachBlockIsOneOfItsOwn(t *testing.T) {
	r := rand.New(rand.NewSource(1))
	d := made(t, 65536)
	want := map[int][]byte{}
	for _, i := range []int{0, 1, 2, 255, 256, 257, 32767, 32768, 65279, 65280, 65535} {
		want[i] = randomBlock(r)
		wrote(t, d, i, want[i])
	}
	look := func() {
		for i := range 65536 {
			b, ok := want[i]
			if !ok {
				b = noughts()
			}
			expect(t, d, i, b)
		}
	}
	look()
	synced(t, d)
	look()
}

// Rule 4: of two disks each has its own blocks.
func TestDisksAreApart(t *testing.T) {
	a, b := made(t, 2), made(t, 2)
	wrote(t, a, 1, full(7))
	expect(t, b, 1, noughts())
	synced(t, a)
	expect(t, b, 1, noughts())
	a.Fail(0)
	synced(t, b)
	expectError(t, "Sync of the one that fails", a.Sync(), api.ErrDown)
	expectDead(t, b, false)
}

func TestNilDisk(t *testing.T) {
	var d *disk.Disk
	for _, i := range []int{0, -1, 1} {
		expectRefused(t, d, i, api.ErrArg)
		expectError(t, "Write", d.Write(i, full(1)), api.ErrArg)
		expectError(t, "Write of nothing", d.Write(i, nil), api.ErrArg)
	}
	expectError(t, "Sync", d.Sync(), api.ErrArg)
	d.Fail(0)
	d.Crash([]byte{255})
	expectDead(t, d, false)
	expectLoose(t, d, 0)
	if d.Len() != 0 {
		t.Errorf("Len is %d", d.Len())
	}
}

func TestPlacesThatThereArent(t *testing.T) {
	for _, n := range []int{1, 2, 6000, 65536} {
		d := made(t, n)
		wrote(t, d, 0, full(1))
		wrote(t, d, n-1, full(2))
		for _, i := range []int{-1, -n, n, n + 1, 65536, math.MinInt, math.MaxInt, 1 << 32, -1 << 32} {
			expectRefused(t, d, i, api.ErrRange)
			expectError(t, "Write", d.Write(i, full(3)), api.ErrRange)
			// The place is asked for in an earlier promise than the bytes.
			expectError(t, "Write of nothing", d.Write(i, nil), api.ErrRange)
			expectError(t, "Write of too much", d.Write(i, make([]byte, 257)), api.ErrRange)
		}
		expectLoose(t, d, 2)
		expect(t, d, n-1, full(2))
	}
}

// killed is a disk of two blocks, one of them synced, one loose, that is dead.
func killed(t *testing.T) *disk.Disk {
	t.Helper()
	d := made(t, 2)
	wrote(t, d, 0, full(1))
	synced(t, d)
	wrote(t, d, 1, full(2))
	d.Fail(0)
	expectError(t, "the one that fails", d.Sync(), api.ErrDown)
	expectDead(t, d, true)
	return d
}

func TestDeadDiskDoesNothing(t *testing.T) {
	d := killed(t)
	for range 3 {
		for _, i := range []int{0, 1, 2, -1, math.MaxInt} {
			expectRefused(t, d, i, api.ErrDown)
			for _, b := range [][]byte{full(3), nil, make([]byte, 255), make([]byte, 257)} {
				expectError(t, "Write", d.Write(i, b), api.ErrDown)
			}
		}
		expectError(t, "Sync", d.Sync(), api.ErrDown)
		expectDead(t, d, true)
		expectLoose(t, d, 1)
		if d.Len() != 2 {
			t.Errorf("Len is %d", d.Len())
		}
	}
	d.Crash([]byte{255, 255, 255})
	expect(t, d, 0, full(1))
	expect(t, d, 1, full(2))
}

// It is Crash alone that lets a disk go on.
func TestDeadDiskStaysDead(t *testing.T) {
	for _, after := range []int{-1, math.MinInt, 0, 5, math.MaxInt} {
		d := killed(t)
		d.Fail(after)
		expectDead(t, d, true)
		expectRefused(t, d, 0, api.ErrDown)
		expectError(t, "Write", d.Write(0, full(3)), api.ErrDown)
		expectError(t, "Sync", d.Sync(), api.ErrDown)
		d.Crash(nil)
		expectDead(t, d, false)
		for range 8 {
			wrote(t, d, 0, full(4))
			synced(t, d)
		}
	}
}

// P11.2

func TestWriteOfLengthsThatMayNotBe(t *testing.T) {
	d := made(t, 2)
	wrote(t, d, 0, full(9))
	for n := range 600 {
		if n == 256 {
			continue
		}
		expectError(t, "Write", d.Write(0, bytes.Repeat([]byte{5}, n)), api.ErrArg)
		expectError(t, "Write", d.Write(1, bytes.Repeat([]byte{5}, n)), api.ErrArg)
	}
	expectError(t, "Write of nil", d.Write(0, nil), api.ErrArg)
	// The length counts, not the room behind it.
	expectError(t, "Write of a piece", d.Write(0, make([]byte, 256)[:255]), api.ErrArg)
	expectLoose(t, d, 1)
	expect(t, d, 0, full(9))
	expect(t, d, 1, noughts())
	wrote(t, d, 1, make([]byte, 600)[:256])
}

func TestReadIsWhatWasWrittenLast(t *testing.T) {
	r := rand.New(rand.NewSource(2))
	d := made(t, 3)
	for k := range 200 {
		b := randomBlock(r)
		wrote(t, d, 1, b)
		expect(t, d, 1, b)
		if k%3 == 0 {
			synced(t, d)
			expect(t, d, 1, b)
		}
		expect(t, d, 0, noughts())
		expect(t, d, 2, noughts())
	}
}

// Of writes to one block the last one is for good, whatever was written to
// others between them.
func TestSyncIsInOrder(t *testing.T) {
	d := made(t, 4)
	for _, i := range []int{0, 2, 0, 1, 2, 0, 2} {
		b, _ := d.Read(i)
		wrote(t, d, i, full(b[0]+1))
	}
	expectLoose(t, d, 7)
	synced(t, d)
	d.Crash(nil)
	for i, c := range []byte{3, 1, 3, 0} {
		expect(t, d, i, full(c))
	}
}

func TestNoughtsAreWrittenToo(t *testing.T) {
	d := made(t, 2)
	wrote(t, d, 0, full(1))
	synced(t, d)
	wrote(t, d, 0, noughts())
	expect(t, d, 0, noughts())
	expectLoose(t, d, 1)
	d.Crash(nil)
	expect(t, d, 0, full(1))
	wrote(t, d, 0, noughts())
	synced(t, d)
	d.Crash(nil)
	expect(t, d, 0, noughts())
	wrote(t, d, 0, full(2))
	wrote(t, d, 0, noughts())
	d.Crash([]byte{255, 3})
	expect(t, d, 0, mixed(noughts(), 3, full(2)))
	wrote(t, d, 1, noughts())
	synced(t, d)
	expect(t, d, 1, noughts())
}

// Rule 3: what is handed in is not changed and not kept, what is answered is
// new memory.
func TestReadAndWriteShareNothing(t *testing.T) {
	d := made(t, 2)
	in := full(1)
	wrote(t, d, 0, in)
	if !bytes.Equal(in, full(1)) {
		t.Error("what was written was changed")
	}
	in[0] = 99
	expect(t, d, 0, full(1))
	for range 2 {
		for i := range 2 {
			out, _ := d.Read(i)
			other, _ := d.Read(i)
			want := bytes.Clone(out)
			for k := range out {
				out[k] += 77
			}
			_ = append(out[:0], 5, 6, 7)
			if !bytes.Equal(other, want) {
				t.Errorf("two answers of block %d share memory", i)
			}
			expect(t, d, i, want)
		}
		synced(t, d)
	}
	in[1] = 99
	expect(t, d, 0, full(1))
	// A block that was read stays as it was, whatever is written later.
	was, _ := d.Read(0)
	wrote(t, d, 0, full(2))
	synced(t, d)
	if !bytes.Equal(was, full(1)) {
		t.Error("an answer was changed by a later Write")
	}
}

func TestSyncOfNothing(t *testing.T) {
	d := made(t, 1)
	for range 3 {
		synced(t, d)
	}
	wrote(t, d, 0, full(1))
	for range 3 {
		synced(t, d)
		expect(t, d, 0, full(1))
	}
}

func TestFailOfAWrite(t *testing.T) {
	for after := range 12 {
		d := made(t, 20)
		d.Fail(after)
		for i := range after {
			wrote(t, d, i, full(byte(i+1)))
		}
		expectDead(t, d, false)
		expectError(t, "the one that fails", d.Write(after, full(100)), api.ErrDown)
		expectDead(t, d, true)
		expectLoose(t, d, after)
		d.Crash(bytes.Repeat([]byte{255}, after+5))
		for i := range after {
			expect(t, d, i, full(byte(i+1)))
		}
		expect(t, d, after, noughts())
	}
}

func TestFailOfASync(t *testing.T) {
	for after := range 12 {
		d := made(t, 20)
		d.Fail(after)
		for i := range after {
			wrote(t, d, i, full(byte(i+1)))
		}
		expectError(t, "the one that fails", d.Sync(), api.ErrDown)
		expectDead(t, d, true)
		expectLoose(t, d, after)
		d.Crash(nil)
		for i := range 20 {
			expect(t, d, i, noughts())
		}
	}
}

// Syncs count, if nothing is loose as well.
func TestFailCountsSyncs(t *testing.T) {
	for after := range 6 {
		d := made(t, 1)
		d.Fail(after)
		for range after {
			synced(t, d)
		}
		expectError(t, "the one that fails", d.Sync(), api.ErrDown)
	}
	d := made(t, 1)
	d.Fail(4)
	wrote(t, d, 0, full(1))
	synced(t, d)
	wrote(t, d, 0, full(2))
	synced(t, d)
	expectError(t, "the one that fails", d.Write(0, full(3)), api.ErrDown)
	d.Crash(nil)
	expect(t, d, 0, full(2))
}

// What wouldn't go doesn't count, nor does what neither writes nor syncs.
func TestFailCountsNothingElse(t *testing.T) {
	idle := func(d *disk.Disk) {
		expectError(t, "Write", d.Write(2, full(1)), api.ErrRange)
		expectError(t, "Write", d.Write(-1, full(1)), api.ErrRange)
		expectError(t, "Write", d.Write(0, nil), api.ErrArg)
		expectError(t, "Write", d.Write(0, make([]byte, 257)), api.ErrArg)
		expectRefused(t, d, 2, api.ErrRange)
		if _, err := d.Read(0); err != api.OK {
			t.Errorf("Read: error %d", err)
		}
		d.Len()
		d.Loose()
		expectDead(t, d, false)
	}
	for after := range 5 {
		d := made(t, 2)
		d.Fail(after)
		for k := range after {
			idle(d)
			if k%2 == 0 {
				wrote(t, d, 0, full(1))
			} else {
				synced(t, d)
			}
		}
		idle(d)
		expectError(t, "the one that fails", d.Write(0, full(2)), api.ErrDown)
		expectDead(t, d, true)
	}
}

func TestFailBelowNought(t *testing.T) {
	for _, after := range []int{-1, -2, math.MinInt} {
		d := made(t, 1)
		d.Fail(0)
		d.Fail(after)
		for range 20 {
			wrote(t, d, 0, full(1))
			synced(t, d)
		}
		expectDead(t, d, false)
	}
	d := made(t, 1)
	d.Fail(math.MaxInt)
	for range 20 {
		wrote(t, d, 0, full(1))
		synced(t, d)
	}
}

// The last Fail counts, from where it is called.
func TestFailAnew(t *testing.T) {
	d := made(t, 1)
	for _, after := range []int{3, 1, 9, 2} {
		d.Fail(after)
		wrote(t, d, 0, full(1))
	}
	synced(t, d)
	expectError(t, "the one that fails", d.Sync(), api.ErrDown)
}

// P11.3

func TestLooseCountsWrites(t *testing.T) {
	d := made(t, 3)
	for n := range 50 {
		expectLoose(t, d, n)
		wrote(t, d, n%2, full(1))
	}
	synced(t, d)
	wrote(t, d, 0, full(1))
	expectLoose(t, d, 1)
	d.Crash(nil)
	expectLoose(t, d, 0)
}

// The document's example: of a Write, a Crash of 3: three bytes are there.
func TestCrashOfEachFront(t *testing.T) {
	r := rand.New(rand.NewSource(3))
	for front := range 256 {
		size := front
		if front == 255 {
			size = 256
		}
		was, b := randomBlock(r), randomBlock(r)
		fresh, used := made(t, 1), made(t, 2)
		wrote(t, fresh, 0, b)
		wrote(t, used, 1, was)
		synced(t, used)
		wrote(t, used, 1, b)
		for _, d := range []*disk.Disk{fresh, used} {
			d.Crash([]byte{byte(front)})
			expectLoose(t, d, 0)
			expectDead(t, d, false)
		}
		expect(t, fresh, 0, mixed(b, size, noughts()))
		expect(t, used, 1, mixed(b, size, was))
		expect(t, used, 0, noughts())
		// It is there for good.
		used.Crash(nil)
		expect(t, used, 1, mixed(b, size, was))
	}
}

func TestCrashWithoutAFront(t *testing.T) {
	for _, front := range [][]byte{nil, {}, full(255)[:0]} {
		d := made(t, 2)
		wrote(t, d, 0, full(1))
		synced(t, d)
		wrote(t, d, 0, full(2))
		wrote(t, d, 1, full(3))
		d.Crash(front)
		expectLoose(t, d, 0)
		expect(t, d, 0, full(1))
		expect(t, d, 1, noughts())
	}
}

// Fronts go with writes, not with blocks, from the first loose one on.
func TestCrashOfSeveralWrites(t *testing.T) {
	for have := range 6 {
		d := made(t, 4)
		wrote(t, d, 3, full(9))
		synced(t, d)
		for k, i := range []int{2, 0, 3, 1} {
			wrote(t, d, i, full(byte(k+1)))
		}
		front := []byte{10, 255, 254, 1, 77}[:min(have, 5)]
		if have == 5 {
			front = append(front, full(255)...)
		}
		d.Crash(front)
		want := [][]byte{noughts(), noughts(), noughts(), full(9)}
		for k, i := range []int{2, 0, 3, 1}[:min(have, 4)] {
			size := []int{10, 256, 254, 1}[k]
			want[i] = mixed(full(byte(k+1)), size, want[i])
		}
		for i := range want {
			expect(t, d, i, want[i])
		}
	}
}

func TestCrashOfWritesToOneBlock(t *testing.T) {
	for _, c := range []struct {
		front []byte
		sizes [3]int // of the first byte's value, the second's, the third's
	}{
		{[]byte{100, 50, 20}, [3]int{20, 50, 100}},
		{[]byte{255, 50, 20}, [3]int{20, 50, 256}},
		{[]byte{20, 50, 100}, [3]int{100, 100, 100}},
		{[]byte{20, 255, 100}, [3]int{100, 256, 256}},
		{[]byte{255, 0, 7}, [3]int{7, 7, 256}},
		{[]byte{255, 255, 0}, [3]int{0, 256, 256}},
		{[]byte{255, 254}, [3]int{0, 254, 256}},
		{[]byte{0, 0, 255}, [3]int{256, 256, 256}},
	} {
		d := made(t, 1)
		wrote(t, d, 0, full(9))
		synced(t, d)
		for _, x := range []byte{3, 2, 1} {
			wrote(t, d, 0, full(x))
		}
		d.Crash(c.front)
		want := mixed(full(3), c.sizes[2], full(9))
		want = mixed(full(2), c.sizes[1], want)
		want = mixed(full(1), c.sizes[0], want)
		expect(t, d, 0, want)
	}
}

func TestCrashOfAnyFrontsInOrder(t *testing.T) {
	r := rand.New(rand.NewSource(4))
	for range 300 {
		d := made(t, 3)
		want := [][]byte{randomBlock(r), randomBlock(r), noughts()}
		wrote(t, d, 0, want[0])
		wrote(t, d, 1, want[1])
		synced(t, d)
		front := make([]byte, r.Intn(20))
		for k := range front {
			front[k] = []byte{0, 1, 128, 254, 255, byte(r.Intn(256))}[r.Intn(6)]
		}
		for k := range r.Intn(20) {
			i, b := r.Intn(3), randomBlock(r)
			wrote(t, d, i, b)
			if k < len(front) && front[k] == 255 {
				want[i] = b
			} else if k < len(front) {
				want[i] = mixed(b, int(front[k]), want[i])
			}
		}
		before := bytes.Clone(front)
		d.Crash(front)
		if !bytes.Equal(front, before) {
			t.Fatal("a front was changed")
		}
		for i := range want {
			expect(t, d, i, want[i])
		}
	}
}

// A front is of what is loose: what was synced, or fell to an earlier crash, has none.
func TestCrashCountsFromTheLastSync(t *testing.T) {
	d := made(t, 3)
	wrote(t, d, 0, full(1))
	synced(t, d)
	wrote(t, d, 1, full(2))
	d.Crash([]byte{5})
	wrote(t, d, 2, full(3))
	d.Crash([]byte{6, 255, 255})
	expect(t, d, 0, full(1))
	expect(t, d, 1, mixed(full(2), 5, noughts()))
	expect(t, d, 2, mixed(full(3), 6, noughts()))
	wrote(t, d, 0, full(7))
	expect(t, d, 0, full(7))
	d.Crash(nil)
	expect(t, d, 0, full(1))
}

func TestCrashLetsItGoOn(t *testing.T) {
	d := killed(t)
	d.Crash([]byte{4})
	expectDead(t, d, false)
	expectLoose(t, d, 0)
	expect(t, d, 0, full(1))
	expect(t, d, 1, mixed(full(2), 4, noughts()))
	for range 20 {
		wrote(t, d, 1, full(3))
		synced(t, d)
		expect(t, d, 1, full(3))
	}
}

// Behind a Crash none fails, whatever Fail said before it.
func TestCrashTakesFailBack(t *testing.T) {
	for after := range 4 {
		d := made(t, 1)
		d.Fail(after)
		d.Crash(nil)
		for range 6 {
			wrote(t, d, 0, full(1))
			synced(t, d)
		}
		d.Fail(1)
		wrote(t, d, 0, full(2))
		expectError(t, "the one that fails", d.Write(0, full(3)), api.ErrDown)
	}
}

// P11.4, and all of them at once.

// entry is a write of a plain disk.
type entry struct {
	to int
	b  []byte
}

// plain is a disk as the document's words have it: each block for good, and
// what is loose, gone through for each answer.
type plain struct {
	good  [][]byte
	loose []entry
	left  int // calls that go until one fails; below 0: none fails
	dead  bool
}

func plainDisk(n int) *plain {
	p := &plain{left: -1}
	for range n {
		p.good = append(p.good, noughts())
	}
	return p
}

func (p *plain) read(i int) ([]byte, api.Errno) {
	if p.dead {
		return nil, api.ErrDown
	}
	if i < 0 || i >= len(p.good) {
		return nil, api.ErrRange
	}
	out := p.good[i]
	for _, e := range p.loose {
		if e.to == i {
			out = e.b
		}
	}
	return out, api.OK
}

func (p *plain) goes() api.Errno {
	if p.left == 0 {
		p.dead = true
		return api.ErrDown
	}
	if p.left > 0 {
		p.left--
	}
	return api.OK
}

func (p *plain) write(i int, b []byte) api.Errno {
	if _, err := p.read(i); err != api.OK {
		return err
	}
	if len(b) != 256 {
		return api.ErrArg
	}
	if err := p.goes(); err != api.OK {
		return err
	}
	p.loose = append(p.loose, entry{i, bytes.Clone(b)})
	return api.OK
}

func (p *plain) sync() api.Errno {
	if p.dead {
		return api.ErrDown
	}
	if err := p.goes(); err != api.OK {
		return err
	}
	for _, e := range p.loose {
		p.good[e.to] = e.b
	}
	p.loose = nil
	return api.OK
}

func (p *plain) crash(front []byte) {
	for k, e := range p.loose {
		if k >= len(front) {
			break
		}
		size := int(front[k])
		if size == 255 {
			size = 256
		}
		p.good[e.to] = mixed(e.b, size, p.good[e.to])
	}
	p.loose, p.left, p.dead = nil, -1, false
}

// expectOutlived holds a disk behind a crash against what was there for good
// before it: each byte is as it was, or is that of a loose write to its block;
// and all of a block is as it was, if nothing loose stood over it.
func expectOutlived(t *testing.T, d *disk.Disk, good [][]byte, loose []entry) {
	t.Helper()
	for i := range good {
		got, err := d.Read(i)
		if err != api.OK {
			t.Fatalf("Read of %d behind a crash: error %d", i, err)
		}
		for k, c := range got {
			known := c == good[i][k]
			for _, e := range loose {
				known = known || e.to == i && e.b[k] == c
			}
			if !known {
				t.Fatalf("block %d, byte %d behind a crash: %d, which nobody wrote there", i, k, c)
			}
		}
	}
}

func randomBytes(r *rand.Rand) []byte {
	switch r.Intn(12) {
	case 0:
		return make([]byte, r.Intn(600))
	case 1:
		return noughts()
	case 2:
		return nil
	}
	return randomBlock(r)
}

// step does one thing with a disk and with a plain one, and holds their
// answers against each other.
func step(t *testing.T, r *rand.Rand, d *disk.Disk, p *plain) {
	t.Helper()
	i := r.Intn(len(p.good)+2) - 1
	switch x := r.Intn(40); {
	case x < 20:
		b := randomBytes(r)
		expectError(t, "Write", d.Write(i, b), p.write(i, b))
	case x < 24:
		expectError(t, "Sync", d.Sync(), p.sync())
	case x < 26:
		after := r.Intn(12) - 2
		d.Fail(after)
		p.left = max(after, -1)
	case x < 30:
		front := make([]byte, r.Intn(12))
		for k := range front {
			front[k] = []byte{0, 255, byte(r.Intn(256))}[r.Intn(3)]
		}
		good, loose := slices.Clone(p.good), slices.Clone(p.loose)
		d.Crash(front)
		p.crash(front)
		expectOutlived(t, d, good, loose)
	default:
		want, wantErr := p.read(i)
		got, err := d.Read(i)
		if err != wantErr || !bytes.Equal(got, want) || (err == api.OK) != (got != nil) {
			t.Fatalf("Read of %d: %v, error %d, want %v, error %d", i, got, err, want, wantErr)
		}
	}
}

func TestAllAgainstAPlainDisk(t *testing.T) {
	for seed := range int64(60) {
		r := rand.New(rand.NewSource(seed))
		n := 1 + r.Intn(6)
		d, p := made(t, n), plainDisk(n)
		for range 400 {
			step(t, r, d, p)
			expectLoose(t, d, len(p.loose))
			expectDead(t, d, p.dead)
			if d.Len() != n {
				t.Fatalf("Len is %d, want %d", d.Len(), n)
			}
			if t.Failed() {
				t.Fatalf("seed %d", seed)
			}
		}
	}
}

// What is synced is there behind each crash that falls into what comes later.
func TestSyncedIsThereBehindACrash(t *testing.T) {
	r := rand.New(rand.NewSource(5))
	for after := range 10 {
		for _, front := range [][]byte{nil, {255}, {0, 7}, full(255), full(9)} {
			d := made(t, 8)
			a, b := randomBlock(r), randomBlock(r)
			wrote(t, d, 0, a)
			wrote(t, d, 1, b)
			synced(t, d)
			d.Fail(after)
			for k := 0; k <= after && !d.Dead(); k++ {
				d.Write(2+k%6, randomBlock(r))
				if k%3 == 2 {
					d.Sync()
				}
			}
			expectDead(t, d, true)
			d.Crash(front)
			expect(t, d, 0, a)
			expect(t, d, 1, b)
		}
	}
}

// Rule 1: a Disk that New didn't make answers something as well.
func TestDiskThatNewDidntMake(t *testing.T) {
	var d disk.Disk
	d.Read(0)
	d.Write(0, full(1))
	d.Sync()
	d.Loose()
	d.Len()
	d.Fail(0)
	d.Sync()
	d.Dead()
	d.Crash([]byte{255})
}
