package wal_test

import (
	"bytes"
	"encoding/binary"
	"hash/crc32"
	"math"
	"math/rand"
	"slices"
	"testing"

	"assayer/api"
	"assayer/disk"
	"assayer/wal"
)

// made is a disk of n blocks.
func made(t *testing.T, n int) *disk.Disk {
	t.Helper()
	d, err := disk.New(n)
	if err != api.OK {
		t.Fatalf("a disk of %d blocks: error %d", n, err)
	}
	return d
}

// opened is a log on a disk, which may be.
func opened(t *testing.T, d *disk.Disk) *wal.Log {
	t.Helper()
	l, err := wal.Open(d)
	if err != api.OK || l == nil {
		t.Fatalf("Open: %v, error %d", l, err)
	}
	return l
}

// fresh is a log on a disk of n blocks of noughts, and that disk.
func fresh(t *testing.T, n int) (*wal.Log, *disk.Disk) {
	t.Helper()
	d := made(t, n)
	return opened(t, d), d
}

// expectRefused opens a disk in vain.
func expectRefused(t *testing.T, d *disk.Disk, want api.Errno) {
	t.Helper()
	if l, err := wal.Open(d); l != nil || err != want {
		t.Errorf("Open: %v, error %d, want error %d", l, err, want)
	}
}

// expectError holds an error against that which a call should tell.
func expectError(t *testing.T, name string, got, want api.Errno) {
	t.Helper()
	if got != want {
		t.Errorf("%s: error %d, want %d", name, got, want)
	}
}

func same(a, b [][]byte) bool { return slices.EqualFunc(a, b, bytes.Equal) }

// expect holds what a log tells against what it should.
func expect(t *testing.T, l *wal.Log, rows [][]byte, sure, free int) {
	t.Helper()
	if got := l.Records(); !same(got, rows) {
		t.Errorf("%d records: %v, want %d: %v", len(got), got, len(rows), rows)
	}
	if got := l.Sure(); got != sure {
		t.Errorf("%d are sure, want %d", got, sure)
	}
	if got := l.Free(); got != free {
		t.Errorf("%d bytes are free, want %d", got, free)
	}
}

func appended(t *testing.T, l *wal.Log, rows ...[]byte) {
	t.Helper()
	for _, b := range rows {
		if err := l.Append(b); err != api.OK {
			t.Fatalf("Append of %d bytes: error %d", len(b), err)
		}
	}
}

func synced(t *testing.T, l *wal.Log) {
	t.Helper()
	if err := l.Sync(); err != api.OK {
		t.Fatalf("Sync: error %d", err)
	}
}

func compacted(t *testing.T, l *wal.Log, rows [][]byte) {
	t.Helper()
	if err := l.Compact(rows); err != api.OK {
		t.Fatalf("Compact of %d records: error %d", len(rows), err)
	}
}

// frames is records' frames by the library.
func frames(rows ...[]byte) []byte {
	var b []byte
	for _, row := range rows {
		b = binary.BigEndian.AppendUint32(b, uint32(len(row)))
		b = binary.BigEndian.AppendUint32(b, crc32.ChecksumIEEE(row))
		b = append(b, row...)
	}
	return b
}

// super is a super's block by the library.
func super(turn uint64, area byte, tail int) []byte {
	b := make([]byte, 256)
	binary.BigEndian.PutUint64(b, turn)
	b[8] = area
	binary.BigEndian.PutUint32(b[9:], uint32(tail))
	binary.BigEndian.PutUint64(b[248:], turn)
	return b
}

// blocks is bytes as blocks, with noughts behind them.
func blocks(b []byte) [][]byte {
	b = slices.Concat(b, make([]byte, (256-len(b)%256)%256))
	return slices.Collect(slices.Chunk(b, 256))
}

// wrote writes blocks to a disk, from one of them on, for good.
func wrote(t *testing.T, d *disk.Disk, at int, rows ...[]byte) {
	t.Helper()
	for i, b := range rows {
		if err := d.Write(at+i, b); err != api.OK {
			t.Fatalf("Write to %d: error %d", at+i, err)
		}
	}
	if err := d.Sync(); err != api.OK {
		t.Fatalf("Sync of the disk: error %d", err)
	}
}

// expectBlocks holds blocks of a disk against what they should be.
func expectBlocks(t *testing.T, d *disk.Disk, at int, want ...[]byte) {
	t.Helper()
	for i, b := range want {
		if got, err := d.Read(at + i); err != api.OK || !bytes.Equal(got, b) {
			t.Errorf("block %d: %v, error %d, want %v", at+i, got, err, b)
		}
	}
}

func expectLoose(t *testing.T, d *disk.Disk, want int) {
	t.Helper()
	if got := d.Loose(); got != want {
		t.Errorf("%d writes are loose, want %d", got, want)
	}
}

func noughts() []byte { return make([]byte, 256) }

// full is bytes of one value.
func full(c byte, n int) []byte { return bytes.Repeat([]byte{c}, n) }

func random(r *rand.Rand, n int) []byte {
	b := make([]byte, n)
	r.Read(b)
	return b
}

// words is records of texts.
func words(texts ...string) [][]byte {
	var rows [][]byte
	for _, text := range texts {
		rows = append(rows, []byte(text))
	}
	return rows
}

// laid is a disk of 6 blocks (two an area), whose area 0 has frames, for good.
func laid(t *testing.T, b []byte) *disk.Disk {
	t.Helper()
	d := made(t, 6)
	wrote(t, d, 2, blocks(b)...)
	wrote(t, d, 1, super(1, 0, len(b)))
	return d
}

// P12.1

func TestOpenOfDisksThatMayNotBe(t *testing.T) {
	expectRefused(t, nil, api.ErrArg)
	expectRefused(t, &disk.Disk{}, api.ErrArg)
	for n := 1; n <= 3; n++ {
		d := made(t, n)
		expectRefused(t, d, api.ErrArg)
		kill(t, d)
		expectRefused(t, d, api.ErrArg)
	}
}

// kill lets a disk be dead.
func kill(t *testing.T, d *disk.Disk) {
	t.Helper()
	d.Fail(0)
	if err := d.Sync(); err != api.ErrDown || !d.Dead() {
		t.Fatalf("Sync: error %d, want that of a dead disk", err)
	}
}

func TestOpenOfADeadDisk(t *testing.T) {
	for _, n := range []int{4, 5, 100} {
		d := made(t, n)
		kill(t, d)
		expectRefused(t, d, api.ErrDown)
		d.Crash(nil)
		opened(t, d)
	}
	d := laid(t, full(255, 20))
	kill(t, d)
	expectRefused(t, d, api.ErrDown)
}

func TestOpenOfNoughts(t *testing.T) {
	for _, n := range []int{4, 5, 6, 7, 8, 9, 100, 101, 65535, 65536} {
		d := made(t, n)
		// It writes nothing, and syncs nothing.
		d.Fail(0)
		l := opened(t, d)
		expect(t, l, nil, 0, (n-2)/2*256)
		expectError(t, "Err", l.Err(), api.OK)
		expectLoose(t, d, 0)
	}
}

// Where no super counts, what is in the areas tells nothing.
func TestOpenWithoutASuper(t *testing.T) {
	d := made(t, 6)
	for i := range 6 {
		wrote(t, d, i, full(byte(i+1), 256))
	}
	l := opened(t, d)
	expect(t, l, nil, 0, 512)
	// From 0, 0, 0 on: turn 1, area 0, behind 0 bytes.
	appended(t, l, []byte("abc"))
	synced(t, l)
	expectBlocks(t, d, 0, full(1, 256), super(1, 0, 11), blocks(frames([]byte("abc")))[0], full(4, 256))
}

func TestOpenOfAreas(t *testing.T) {
	for _, n := range []int{6, 7} {
		for area := range 2 {
			for at := range 2 {
				d := made(t, n)
				wrote(t, d, 2, blocks(frames(words("first", "area")...))...)
				wrote(t, d, 4, blocks(frames(words("2nd", "one", "!!")...))...)
				want, tail := words("first", "area"), 25
				if area == 1 {
					want, tail = words("2nd", "one", "!!"), 32
				}
				// Which block a super stands in is not asked for.
				wrote(t, d, at, super(7, byte(area), tail))
				expect(t, opened(t, d), want, len(want), 512-tail)
			}
		}
	}
}

// What is behind the tail counts for nothing.
func TestOpenUpToATail(t *testing.T) {
	rows := words("a", "", "ccc", "dd")
	d := made(t, 6)
	wrote(t, d, 2, blocks(slices.Concat(frames(rows...), full(255, 100)))...)
	for k := range len(rows) + 1 {
		tail := len(frames(rows[:k]...))
		wrote(t, d, 0, super(2, 0, tail))
		expect(t, opened(t, d), rows[:k], k, 512-tail)
	}
}

func TestOpenOfManyBlocks(t *testing.T) {
	r := rand.New(rand.NewSource(1))
	var rows [][]byte
	for _, n := range []int{0, 1, 255, 256, 257, 16384, 240, 241, 247, 248, 249, 16383, 5000, 0, 0} {
		rows = append(rows, random(r, n))
	}
	b := frames(rows...)
	for _, n := range []int{2 + 2*len(blocks(b)), 3 + 2*len(blocks(b)), 1000} {
		for area := range 2 {
			d := made(t, n)
			each := (n - 2) / 2
			wrote(t, d, 2+area*each, blocks(b)...)
			wrote(t, d, 1, super(1, byte(area), len(b)))
			expect(t, opened(t, d), rows, len(rows), each*256-len(b))
		}
	}
}

// The super of the greater turn tells, block 0's, if they are alike.
func TestOpenOfTheGreaterTurn(t *testing.T) {
	big := uint64(math.MaxUint64)
	for _, c := range []struct {
		zero, one uint64
		area      int // of block 0 it is 0, of block 1 it is 1
	}{
		{1, 2, 1}, {2, 1, 0}, {1, 1, 0}, {7, 7, 0}, {255, 256, 1}, {256, 255, 0}, {1 << 63, 1<<63 - 1, 0},
		{1<<63 - 1, 1 << 63, 1}, {big, big - 1, 0}, {big - 1, big, 1}, {big, big, 0}, {5, 0, 0}, {0, 5, 1},
	} {
		d := made(t, 4)
		wrote(t, d, 2, blocks(frames([]byte("zero")))[0], blocks(frames([]byte("one")))[0])
		wrote(t, d, 0, super(c.zero, 0, 12), super(c.one, 1, 11))
		expect(t, opened(t, d), words("zero", "one")[c.area:c.area+1], 1, 256-12+c.area)
	}
}

// A super that doesn't count is passed over, whatever turn it tells.
func TestSupersThatDontCount(t *testing.T) {
	good := super(9, 0, 12)
	check := func(name string, other []byte) {
		t.Helper()
		for at := range 2 {
			d := made(t, 4)
			wrote(t, d, 2, blocks(frames([]byte("zero")))[0], full(255, 256))
			wrote(t, d, at, other)
			expect(t, opened(t, d), nil, 0, 256)
			wrote(t, d, 1-at, good)
			expect(t, opened(t, d), words("zero"), 1, 244)
			if t.Failed() {
				t.Fatalf("%s, in block %d", name, at)
			}
		}
	}
	with := func(i int, c byte) []byte {
		b := super(10, 1, 0)
		b[i] ^= c
		return b
	}
	for i := range 256 {
		if i >= 8 && i <= 12 {
			continue
		}
		for _, c := range []byte{1, 2, 128, 255} {
			check("a byte of the turn, or of the noughts", with(i, c))
		}
	}
	for area := 2; area < 256; area++ {
		check("no such area", super(10, byte(area), 0))
	}
	for _, tail := range []int{257, 258, 512, 1 << 16, 1<<31 - 1, 1 << 31, 1<<32 - 1} {
		check("a tail that is too great", super(10, 0, tail))
		check("a tail that is too great", super(10, 1, tail))
	}
	check("turn 0", super(0, 0, 12))
	check("turn 0", super(0, 1, 0))
	check("no super", full(7, 256))
	torn := super(10, 1, 0)
	for n := range 256 {
		if n >= 8 { // of fewer first bytes nothing but noughts is there
			check("torn", slices.Concat(torn[:n], super(8, 0, 12)[n:]))
		}
	}
}

func TestTailOfAWholeArea(t *testing.T) {
	d := made(t, 5)
	row := full(3, 248)
	wrote(t, d, 2, frames(row))
	wrote(t, d, 0, super(4, 0, 256))
	expect(t, opened(t, d), [][]byte{row}, 1, 0)
	d = made(t, 7)
	rows := [][]byte{full(3, 250), full(4, 246)}
	wrote(t, d, 4, blocks(frames(rows...))...)
	wrote(t, d, 0, super(4, 1, 512))
	expect(t, opened(t, d), rows, 2, 0)
}

func TestOpenOfBytesThatEndWithinAFrame(t *testing.T) {
	rows := words("abc", "", "defghi")
	whole := frames(rows...)
	ends := map[int]bool{0: true, 11: true, 19: true, 33: true}
	for n := range len(whole) + 1 {
		d := laid(t, whole)
		wrote(t, d, 0, super(2, 0, n))
		if ends[n] {
			opened(t, d)
		} else {
			expectRefused(t, d, api.ErrForm)
		}
	}
}

// framed is a frame that tells how many bytes it has, and their sum, as it likes.
func framed(many, sum uint32, b []byte) []byte {
	out := binary.BigEndian.AppendUint32(nil, many)
	return append(binary.BigEndian.AppendUint32(out, sum), b...)
}

func TestOpenOfRecordsThatAreTooBig(t *testing.T) {
	for _, n := range []uint32{16384, 16385, 16386, 20000, 65535, 1 << 31, 1<<31 - 1, 1<<32 - 1} {
		row := full(5, int(min(n, 30000)))
		// Of a record that is too big the sum isn't asked for.
		for _, sum := range []uint32{crc32.ChecksumIEEE(row), 1} {
			b := framed(n, sum, row)
			d := made(t, 1000)
			wrote(t, d, 2, blocks(b)...)
			wrote(t, d, 1, super(1, 0, len(b)))
			switch {
			case n > 16384:
				expectRefused(t, d, api.ErrForm)
			case sum == 1:
				expectRefused(t, d, api.ErrSum)
			default:
				expect(t, opened(t, d), [][]byte{row}, 1, 499*256-len(b))
			}
		}
	}
}

func TestOpenOfSumsThatArent(t *testing.T) {
	whole := frames(words("abc", "defgh")...)
	for i := range whole {
		for bit := range 8 {
			b := bytes.Clone(whole)
			b[i] ^= 1 << bit
			d := laid(t, b)
			if i%11 < 4 { // how many bytes there are: it is the next bytes that are off
				if l, err := wal.Open(d); l != nil || err != api.ErrForm && err != api.ErrSum {
					t.Errorf("byte %d, bit %d: %v, error %d", i, bit, l, err)
				}
				continue
			}
			expectRefused(t, d, api.ErrSum)
		}
	}
	expectRefused(t, laid(t, framed(0, 1, nil)), api.ErrSum)
	opened(t, laid(t, framed(0, 0, nil)))
}

// Frame by frame: the first one that is off tells the error.
func TestOpenTellsTheFirstFramesError(t *testing.T) {
	good, sum, form := frames([]byte("good")), framed(3, 1, []byte("abc")), framed(16385, 0, nil)
	expectRefused(t, laid(t, slices.Concat(good, sum, form)), api.ErrSum)
	expectRefused(t, laid(t, slices.Concat(good, form, sum)), api.ErrForm)
	expectRefused(t, laid(t, slices.Concat(good, sum, []byte{0})), api.ErrSum)
	// The bytes end within it, and its sum would be off as well.
	expectRefused(t, laid(t, framed(4, 1, []byte("abc"))), api.ErrForm)
}

// A super of a greater turn that tells of no such frames isn't passed over.
func TestOpenDoesntGoBack(t *testing.T) {
	d := laid(t, frames([]byte("abc")))
	wrote(t, d, 0, super(2, 0, 10))
	expectRefused(t, d, api.ErrForm)
	wrote(t, d, 0, super(2, 1, 8))
	opened(t, d)
	wrote(t, d, 4, full(9, 256))
	expectRefused(t, d, api.ErrForm)
}

// P12.2

func TestAppendLaysFrames(t *testing.T) {
	r := rand.New(rand.NewSource(2))
	l, d := fresh(t, 402)
	var rows [][]byte
	whole := 0
	for _, n := range []int{248, 0, 1, 3, 220, 248, 247, 249, 256, 0, 0, 16384, 512, 100, 1000, 7, 16383, 5000, 255, 504} {
		row := random(r, n)
		was := frames(rows...)
		if len(was)%256 == 0 {
			whole++
		}
		rows = append(rows, row)
		b := frames(rows...)
		loose := d.Loose()
		appended(t, l, row)
		// Just the blocks that have any of the frame are written, each once.
		expectLoose(t, d, loose+(len(b)-1)/256-len(was)/256+1)
		expectBlocks(t, d, 2, blocks(b)...)
		expect(t, l, rows, 0, 200*256-len(b))
	}
	if whole < 4 {
		t.Errorf("%d records began with a block, want 4 at least", whole)
	}
	for i := 202; i < 402; i++ {
		expectBlocks(t, d, i, noughts())
	}
	expectBlocks(t, d, 0, noughts(), noughts())
}

// Of a disk of an odd number of blocks the last one is in no area.
func TestAppendInEachArea(t *testing.T) {
	for _, n := range []int{6, 7} {
		l, d := fresh(t, n)
		appended(t, l, full(1, 300))
		compacted(t, l, [][]byte{full(2, 300)})
		appended(t, l, full(3, 196))
		expectBlocks(t, d, 2, blocks(frames(full(1, 300)))...)
		expectBlocks(t, d, 4, blocks(frames(full(2, 300), full(3, 196)))...)
		expect(t, l, [][]byte{full(2, 300), full(3, 196)}, 1, 0)
		if n == 7 {
			expectBlocks(t, d, 6, noughts())
		}
	}
}

// By rising numbers: of writes behind a crash the first ones' fronts are there.
func TestAppendWritesByRisingNumbers(t *testing.T) {
	row := full(7, 1000)
	want := blocks(frames(row))
	for k := range 5 {
		l, d := fresh(t, 12)
		appended(t, l, row)
		expectLoose(t, d, 4)
		d.Crash(full(255, k))
		for i := range 4 {
			if i < k {
				expectBlocks(t, d, 2+i, want[i])
			} else {
				expectBlocks(t, d, 2+i, noughts())
			}
		}
	}
}

// What the log itself has is written, whatever others wrote there since.
func TestAppendWritesWhatTheLogHas(t *testing.T) {
	d := laid(t, frames([]byte("opened")))
	l := opened(t, d)
	check := func(rows ...[]byte) {
		t.Helper()
		b := blocks(frames(rows...))
		expectBlocks(t, d, 2, b...)
		expect(t, l, rows, 1, 512-len(frames(rows...)))
		for i := range 6 {
			wrote(t, d, i, full(99, 256))
		}
	}
	check([]byte("opened"))
	appended(t, l, []byte("appended"))
	check(words("opened", "appended")...)
	appended(t, l, nil)
	check(words("opened", "appended", "")...)
	appended(t, l, full(8, 250))
	check(append(words("opened", "appended", ""), full(8, 250))...)
	appended(t, l, []byte("last"))
	// A block that has none of it stays as others wrote it.
	expectBlocks(t, d, 2, full(99, 256))
	whole := frames(append(words("opened", "appended", ""), full(8, 250), []byte("last"))...)
	expectBlocks(t, d, 3, blocks(whole)[1])
	expectBlocks(t, d, 4, full(99, 256))
}

func TestAppendOfTooBig(t *testing.T) {
	l, d := fresh(t, 400)
	for _, n := range []int{16385, 16386, 20000, 65536, 1 << 20} {
		expectError(t, "Append", l.Append(make([]byte, n)), api.ErrBig)
	}
	expectLoose(t, d, 0)
	expectError(t, "Err", l.Err(), api.OK)
	appended(t, l, full(1, 16384))
	expect(t, l, [][]byte{full(1, 16384)}, 0, 199*256-16392)
	// It is named ahead of ErrFull.
	small, _ := fresh(t, 4)
	expectError(t, "Append", small.Append(make([]byte, 16385)), api.ErrBig)
	expectError(t, "Append", small.Append(make([]byte, 16384)), api.ErrFull)
}

func TestAppendToAFullArea(t *testing.T) {
	for n := range 300 {
		l, d := fresh(t, 4)
		want := api.OK
		if n > 248 {
			want = api.ErrFull
		}
		expectError(t, "Append", l.Append(full(1, n)), want)
		if want == api.OK {
			expect(t, l, [][]byte{full(1, n)}, 0, 248-n)
			continue
		}
		expect(t, l, nil, 0, 256)
		expectLoose(t, d, 0)
		// It doesn't stay.
		expectError(t, "Err", l.Err(), api.OK)
		appended(t, l, full(2, 10))
	}
	l, d := fresh(t, 6)
	appended(t, l, full(1, 490))
	for n := 7; n < 20; n++ {
		expectError(t, "Append", l.Append(full(1, n)), api.ErrFull)
	}
	appended(t, l, full(2, 6))
	expect(t, l, [][]byte{full(1, 490), full(2, 6)}, 0, 0)
	expectError(t, "Append of nothing", l.Append(nil), api.ErrFull)
	synced(t, l)
	expect(t, opened(t, d), [][]byte{full(1, 490), full(2, 6)}, 2, 0)
}

func TestAppendThatFails(t *testing.T) {
	for after := range 5 {
		l, d := fresh(t, 20)
		appended(t, l, []byte("there"))
		synced(t, l)
		appended(t, l, []byte("loose"))
		d.Fail(after)
		row := full(6, 1240) // five blocks
		expectError(t, "Append", l.Append(row), api.ErrDown)
		expectStays(t, l, words("there", "loose"), 1, 9*256-26)
		d.Crash(full(255, 20))
		// The disk goes on, but the log doesn't, until it is opened anew.
		expectStays(t, l, words("there", "loose"), 1, 9*256-26)
		expectLoose(t, d, 0)
		expect(t, opened(t, d), words("there"), 1, 9*256-13)
	}
}

// expectStays asks a log all, whose error stays.
func expectStays(t *testing.T, l *wal.Log, rows [][]byte, sure, free int) {
	t.Helper()
	for range 2 {
		expectError(t, "Err", l.Err(), api.ErrDown)
		expectError(t, "Append", l.Append([]byte("x")), api.ErrDown)
		expectError(t, "Append of too big", l.Append(make([]byte, 16385)), api.ErrDown)
		expectError(t, "Sync", l.Sync(), api.ErrDown)
		expectError(t, "Compact", l.Compact(nil), api.ErrDown)
		expectError(t, "Compact of too big", l.Compact([][]byte{make([]byte, 16385)}), api.ErrDown)
		expect(t, l, rows, sure, free)
	}
}

// Rule 3: what is handed in is not changed and not kept.
func TestHandedInIsNotKept(t *testing.T) {
	l, d := fresh(t, 10)
	in := []byte("abc....")[:3]
	appended(t, l, in)
	if string(in[:7]) != "abc...." {
		t.Errorf("what is handed in was changed: %q", in[:7])
	}
	in[0] = 'X'
	appended(t, l, []byte("d"))
	expect(t, l, words("abc", "d"), 0, 4*256-20)
	rows := words("ef", "g")
	compacted(t, l, rows)
	if !same(rows, words("ef", "g")) {
		t.Errorf("what is handed in was changed: %q", rows)
	}
	rows[0][0], rows[1] = 'X', nil
	appended(t, l, []byte("h"))
	synced(t, l)
	expect(t, l, words("ef", "g", "h"), 3, 4*256-28)
	expect(t, opened(t, d), words("ef", "g", "h"), 3, 4*256-28)
}

// P12.3

func TestSyncWritesSupers(t *testing.T) {
	l, d := fresh(t, 20)
	var rows [][]byte
	want := [2][]byte{noughts(), noughts()}
	for turn := uint64(1); turn < 20; turn++ {
		for range turn % 3 {
			rows = append(rows, full(byte(turn), int(turn)))
			appended(t, l, rows[len(rows)-1])
		}
		rows = append(rows, nil)
		appended(t, l, nil)
		synced(t, l)
		tail := len(frames(rows...))
		want[turn%2] = super(turn, 0, tail)
		expectBlocks(t, d, 0, want[:]...)
		expectLoose(t, d, 0)
		expect(t, l, rows, len(rows), 9*256-tail)
	}
}

// counted is how many calls of Write and Sync something needs.
func counted(t *testing.T, d *disk.Disk, act func()) int {
	t.Helper()
	const many = 1000
	d.Fail(many)
	act()
	for left := range many + 1 {
		if d.Sync() != api.OK {
			d.Crash(nil)
			return many - left
		}
	}
	t.Fatal("none failed")
	return 0
}

func TestSyncOfWhatIsSure(t *testing.T) {
	l, d := fresh(t, 10)
	nothing := func() {
		t.Helper()
		if n := counted(t, d, func() { synced(t, l); synced(t, l) }); n != 0 {
			t.Errorf("%d calls of the disk, want none", n)
		}
	}
	nothing()
	appended(t, l, []byte("abc"))
	if n := counted(t, d, func() { synced(t, l) }); n != 3 {
		t.Errorf("%d calls of the disk, want 3", n)
	}
	nothing()
	expectBlocks(t, d, 0, noughts(), super(1, 0, 11))
	compacted(t, l, words("d"))
	nothing()
	l = opened(t, d)
	nothing()
	expectBlocks(t, d, 0, super(2, 1, 9), super(1, 0, 11))
	// Nothing is asked of a dead disk either.
	kill(t, d)
	synced(t, l)
	expectError(t, "Err", l.Err(), api.OK)
}

// Frames are synced ahead of the super that tells of them.
func TestSyncThatFails(t *testing.T) {
	for after := range 3 {
		l, d := fresh(t, 8)
		appended(t, l, []byte("a"))
		synced(t, l)
		appended(t, l, []byte("b"))
		d.Fail(after)
		expectError(t, "Sync", l.Sync(), api.ErrDown)
		expectLoose(t, d, []int{1, 0, 1}[after])
		expectStays(t, l, words("a", "b"), 1, 3*256-18)
		d.Crash(nil)
		expectBlocks(t, d, 0, noughts(), super(1, 0, 9))
		if after > 0 {
			expectBlocks(t, d, 2, blocks(frames(words("a", "b")...))...)
		}
		expectStays(t, l, words("a", "b"), 1, 3*256-18)
		// The turn wasn't 1 more: the next one goes to the same block.
		l = opened(t, d)
		expect(t, l, words("a"), 1, 3*256-9)
		appended(t, l, []byte("c"))
		synced(t, l)
		expectBlocks(t, d, 0, super(2, 0, 18), super(1, 0, 9))
	}
}

func TestCompactWritesTheOtherArea(t *testing.T) {
	r := rand.New(rand.NewSource(3))
	l, d := fresh(t, 22)
	area := [2][]byte{}
	want := [2][]byte{noughts(), noughts()}
	for turn := uint64(1); turn < 12; turn++ {
		var rows [][]byte
		for range r.Intn(5) {
			rows = append(rows, random(r, r.Intn(400)))
		}
		b := frames(rows...)
		to := turn % 2
		compacted(t, l, rows)
		expect(t, l, rows, len(rows), 10*256-len(b))
		expectLoose(t, d, 0)
		// Blocks that have none of it stay as they are.
		size := 256 * len(blocks(b))
		area[to] = slices.Concat(slices.Concat(blocks(b)...), area[to][min(size, len(area[to])):])
		want[to] = super(turn, byte(to), len(b))
		expectBlocks(t, d, 0, want[:]...)
		expectBlocks(t, d, 2, blocks(area[0])...)
		expectBlocks(t, d, 12, blocks(area[1])...)
		expect(t, opened(t, d), rows, len(rows), 10*256-len(b))
	}
}

// Compact lets all be gone that was there, sure or not.
func TestCompactThenAppend(t *testing.T) {
	l, d := fresh(t, 8)
	appended(t, l, words("a", "b")...)
	synced(t, l)
	appended(t, l, words("c")...)
	compacted(t, l, words("d", "e"))
	expect(t, l, words("d", "e"), 2, 3*256-18)
	appended(t, l, words("f")...)
	expect(t, l, words("d", "e", "f"), 2, 3*256-27)
	expect(t, opened(t, d), words("d", "e"), 2, 3*256-18)
	synced(t, l)
	expectBlocks(t, d, 0, super(2, 1, 18), super(3, 1, 27))
	expect(t, opened(t, d), words("d", "e", "f"), 3, 3*256-27)
	compacted(t, l, nil)
	expect(t, l, nil, 0, 3*256)
	expectBlocks(t, d, 0, super(4, 0, 0), super(3, 1, 27))
	expect(t, opened(t, d), nil, 0, 3*256)
}

func TestCompactWritesByRisingNumbers(t *testing.T) {
	rows := [][]byte{full(7, 500), full(8, 480)}
	want := blocks(frames(rows...))
	for k := range 5 {
		l, d := fresh(t, 12)
		d.Fail(4)
		expectError(t, "Compact", l.Compact(rows), api.ErrDown)
		expectLoose(t, d, 4)
		d.Crash(full(255, k))
		for i := range 4 {
			if i < k {
				expectBlocks(t, d, 7+i, want[i])
			} else {
				expectBlocks(t, d, 7+i, noughts())
			}
		}
	}
}

func TestCompactCountsItsCalls(t *testing.T) {
	for _, n := range []int{0, 1, 247, 248, 249, 504, 505, 2000} {
		l, d := fresh(t, 40)
		rows := [][]byte{full(1, n)}
		if got, want := counted(t, d, func() { compacted(t, l, rows) }), len(blocks(frames(rows...)))+3; got != want {
			t.Errorf("%d bytes: %d calls of the disk, want %d", n, got, want)
		}
	}
	l, d := fresh(t, 4)
	if n := counted(t, d, func() { compacted(t, l, nil) }); n != 3 {
		t.Errorf("no records: %d calls of the disk, want 3", n)
	}
	expectBlocks(t, d, 0, noughts(), super(1, 1, 0))
}

func TestCompactOfTooBig(t *testing.T) {
	l, d := fresh(t, 400)
	appended(t, l, []byte("here"))
	for _, rows := range [][][]byte{
		{make([]byte, 16385)},
		{nil, make([]byte, 20000), nil},
		{[]byte("a"), []byte("b"), make([]byte, 1<<20)},
		{make([]byte, 16384), make([]byte, 16384), make([]byte, 16384), make([]byte, 16384), make([]byte, 16385)},
	} {
		// It is named ahead of ErrFull, also if it stands behind.
		expectError(t, "Compact", l.Compact(rows), api.ErrBig)
	}
	expect(t, l, words("here"), 0, 199*256-12)
	expectLoose(t, d, 1)
	expectError(t, "Err", l.Err(), api.OK)
	compacted(t, l, [][]byte{full(3, 16384)})
	expect(t, opened(t, d), [][]byte{full(3, 16384)}, 1, 199*256-16392)
}

func TestCompactOfMoreThanAnArea(t *testing.T) {
	for _, c := range []struct {
		sizes []int
		want  api.Errno
	}{
		{[]int{248}, api.OK}, {[]int{249}, api.ErrFull}, {[]int{120, 120}, api.OK}, {[]int{120, 121}, api.ErrFull},
		{[]int{121, 120}, api.ErrFull}, {make([]int, 32), api.OK}, {make([]int, 33), api.ErrFull},
		{[]int{16384}, api.ErrFull}, {[]int{16384, 16384, 16384}, api.ErrFull},
	} {
		l, d := fresh(t, 5)
		appended(t, l, full(9, 100)) // what is there already takes no room
		var rows [][]byte
		for i, n := range c.sizes {
			rows = append(rows, full(byte(i), n))
		}
		expectError(t, "Compact", l.Compact(rows), c.want)
		expectError(t, "Err", l.Err(), api.OK)
		if c.want == api.OK {
			expect(t, l, rows, len(rows), 256-len(frames(rows...)))
			continue
		}
		expect(t, l, [][]byte{full(9, 100)}, 0, 148)
		expectLoose(t, d, 1)
		synced(t, l)
		expect(t, opened(t, d), [][]byte{full(9, 100)}, 1, 148)
	}
}

// Many rows of one memory: more than an area, told without laying them.
func TestCompactOfVeryMany(t *testing.T) {
	l, _ := fresh(t, 65536)
	row := full(1, 16384)
	rows := slices.Repeat([][]byte{row}, 200000)
	expectError(t, "Compact", l.Compact(rows), api.ErrFull)
	const fit = 32767 * 256 / 16392
	compacted(t, l, rows[:fit])
	if len(l.Records()) != fit || l.Sure() != fit || l.Free() != 32767*256-fit*16392 {
		t.Errorf("%d records, %d sure, %d free", len(l.Records()), l.Sure(), l.Free())
	}
	expectError(t, "Compact", l.Compact(rows[:fit+1]), api.ErrFull)
}

func TestCompactThatFails(t *testing.T) {
	rows := [][]byte{full(4, 300), full(5, 300)}
	for after := range 6 { // three blocks, Sync, super, Sync
		l, d := fresh(t, 12)
		appended(t, l, []byte("a"))
		synced(t, l)
		appended(t, l, []byte("b"))
		d.Fail(after)
		expectError(t, "Compact", l.Compact(rows), api.ErrDown)
		expectStays(t, l, words("a", "b"), 1, 5*256-18)
		d.Crash(nil)
		expectStays(t, l, words("a", "b"), 1, 5*256-18)
		expectBlocks(t, d, 0, noughts(), super(1, 0, 9))
		l = opened(t, d)
		expect(t, l, words("a"), 1, 5*256-9)
		compacted(t, l, words("c"))
		expectBlocks(t, d, 0, super(2, 1, 9), super(1, 0, 9))
		expect(t, opened(t, d), words("c"), 1, 5*256-9)
	}
}

// A turn of eight bytes: it goes on from whatever a super tells.
func TestTurnsGoOn(t *testing.T) {
	for _, turn := range []uint64{1, 2, 255, 256, 1<<32 - 1, 1 << 32, 1<<63 - 1, 1 << 63, math.MaxUint64 - 2} {
		d := made(t, 4)
		wrote(t, d, 1, super(turn, 1, 0))
		l := opened(t, d)
		appended(t, l, []byte("a"))
		synced(t, l)
		expectBlocks(t, d, int((turn+1)%2), super(turn+1, 1, 9))
		compacted(t, l, words("b"))
		expectBlocks(t, d, int(turn%2), super(turn+2, 0, 9))
		expect(t, opened(t, d), words("b"), 1, 247)
	}
}

// P12.4

func TestRecordsAreNewMemory(t *testing.T) {
	l, d := fresh(t, 10)
	appended(t, l, words("abc", "de")...)
	synced(t, l)
	for _, l := range []*wal.Log{l, opened(t, d)} {
		first, second := l.Records(), l.Records()
		for i := range first {
			for k := range first[i] {
				first[i][k] = 'X'
			}
			_ = append(first[i], "more"...)
			first[i] = nil
		}
		_ = append(first[:0], nil, nil)
		if !same(second, words("abc", "de")) {
			t.Errorf("two answers share memory: %q", second)
		}
		expect(t, l, words("abc", "de"), 2, 4*256-21)
		appended(t, l, []byte("f"))
		if !same(second, words("abc", "de")) {
			t.Errorf("an answer was changed by a later Append: %q", second)
		}
		expect(t, l, words("abc", "de", "f"), 2, 4*256-30)
		expectBlocks(t, d, 2, blocks(frames(words("abc", "de", "f")...))...)
	}
}

func TestNilLog(t *testing.T) {
	var l *wal.Log
	expectError(t, "Append", l.Append([]byte("a")), api.ErrArg)
	expectError(t, "Append of too big", l.Append(make([]byte, 16385)), api.ErrArg)
	expectError(t, "Sync", l.Sync(), api.ErrArg)
	expectError(t, "Compact", l.Compact(words("a")), api.ErrArg)
	expectError(t, "Compact of too big", l.Compact([][]byte{make([]byte, 16385)}), api.ErrArg)
	expectError(t, "Err", l.Err(), api.ErrArg)
	expect(t, l, nil, 0, 0)
	if got := l.Records(); got != nil {
		t.Errorf("records: %v", got)
	}
}

// Rule 1: a Log that Open didn't make answers something as well.
func TestLogThatOpenDidntMake(t *testing.T) {
	var l wal.Log
	l.Sync()
	l.Append(nil)
	l.Records()
	l.Sure()
	l.Free()
	l.Compact(words("a"))
	l.Compact(nil)
	l.Append(nil)
	l.Sync()
	l.Err()
}

// Rule 4: of two disks each log has its own records.
func TestLogsAreApart(t *testing.T) {
	a, _ := fresh(t, 6)
	b, d := fresh(t, 6)
	appended(t, a, []byte("a"))
	expect(t, b, nil, 0, 512)
	kill(t, d)
	expectError(t, "Append", b.Append(nil), api.ErrDown)
	synced(t, a)
	expect(t, a, words("a"), 1, 503)
}

// P12.5, and all of them at once.

// The document's example: Append, Crash, Open: no record.
func TestAppendCrashOpen(t *testing.T) {
	for _, front := range [][]byte{nil, {0}, {3}, {254}, {255}, full(255, 9)} {
		l, d := fresh(t, 8)
		appended(t, l, []byte("abc"))
		expect(t, l, words("abc"), 0, 3*256-11)
		d.Crash(front)
		expect(t, opened(t, d), nil, 0, 3*256)
	}
}

// copied is a disk of the same blocks, all of them for good.
func copied(t *testing.T, d *disk.Disk) *disk.Disk {
	t.Helper()
	other := made(t, d.Len())
	for i := range d.Len() {
		b, err := d.Read(i)
		if err != api.OK {
			t.Fatalf("Read of %d: error %d", i, err)
		}
		other.Write(i, b)
	}
	other.Sync()
	return other
}

// begun is a log of two sure records and one that isn't, on a disk of 12 blocks.
func begun(t *testing.T) (*wal.Log, *disk.Disk) {
	t.Helper()
	l, d := fresh(t, 12)
	appended(t, l, full(1, 200), full(2, 20))
	synced(t, l)
	appended(t, l, full(3, 300))
	return l, d
}

// fronts is what crashes leave of up to n loose writes: each as many first bytes
// of the last one as there may be, behind others that are there or not.
func fronts(n int) [][]byte {
	out := [][]byte{nil}
	for many := range n {
		for size := range 256 {
			for _, c := range []byte{0, 100, 255} {
				out = append(out, append(full(c, many), byte(size)))
			}
		}
	}
	return out
}

// A crash in each place of a Sync and of a Compact, and each front of what is
// loose there.
func TestCrashWithinASyncOrACompact(t *testing.T) {
	was := [][]byte{full(1, 200), full(2, 20)}
	rows := [][]byte{full(4, 300), full(5, 3)}
	for _, c := range []struct {
		act   func(l *wal.Log) api.Errno
		calls int
		next  [][]byte
	}{
		{(*wal.Log).Sync, 3, append(slices.Clone(was), full(3, 300))},
		{func(l *wal.Log) api.Errno { return l.Compact(rows) }, 5, rows},
		{func(l *wal.Log) api.Errno { return l.Append(full(6, 300)) }, 2, nil},
	} {
		arrived := 0
		for after := range c.calls {
			for _, front := range fronts(3) {
				l, d := begun(t)
				d.Fail(after)
				expectError(t, "what fails", c.act(l), api.ErrDown)
				d.Crash(front)
				l = opened(t, d)
				got := l.Records()
				if l.Sure() != len(got) || !same(got, was) && (c.next == nil || !same(got, c.next)) {
					t.Fatalf("crash at call %d, front %v: %d records", after, front, len(got))
				}
				if !same(got, was) {
					arrived++
				}
				// To open again is to have the same.
				expect(t, opened(t, d), got, l.Sure(), l.Free())
			}
		}
		// It is there at times: if the super was whole when the last Sync failed.
		if (c.next != nil) != (arrived > 0) {
			t.Errorf("%d times what was about to be sure was", arrived)
		}
	}
}

// What was sure stays so behind a second crash, in whatever follows the first.
func TestCrashBehindACrash(t *testing.T) {
	for first := range 6 {
		for _, tear := range []byte{0, 7, 8, 13, 200, 247, 248, 255} {
			for second := range 12 {
				l, d := begun(t)
				d.Fail(first)
				l.Sync()
				l.Compact([][]byte{full(4, 400)})
				d.Crash(full(tear, 9))
				l = opened(t, d)
				got := l.Records()
				d.Fail(second)
				l.Append(full(7, 200))
				l.Append(full(8, 200))
				d.Crash(full(tear, 9))
				expect(t, opened(t, copied(t, d)), got, len(got), l.Free()+bytesOf(l.Records()[len(got):]))
				expect(t, opened(t, d), got, len(got), l.Free()+bytesOf(l.Records()[len(got):]))
			}
		}
	}
}

func bytesOf(rows [][]byte) int { return len(frames(rows...)) }

// plain is a log as the document's words have it, without a disk.
type plain struct {
	room, sure int
	rows       [][]byte
	good, next [][]byte // what a crash leaves, perhaps
	perhaps    bool
	err        api.Errno
}

func (p *plain) free() int { return p.room - bytesOf(p.rows) }

// fails tells how it goes on, once a call of the log told that the disk is down.
func (p *plain) fails(next [][]byte) api.Errno {
	p.err, p.next, p.perhaps = api.ErrDown, next, next != nil
	return p.err
}

func (p *plain) append(b []byte, down bool) api.Errno {
	switch {
	case p.err != api.OK:
		return p.err
	case len(b) > 16384:
		return api.ErrBig
	case 8+len(b) > p.free():
		return api.ErrFull
	case down:
		return p.fails(nil)
	}
	p.rows = append(slices.Clone(p.rows), bytes.Clone(b))
	return api.OK
}

func (p *plain) sync(down bool) api.Errno {
	switch {
	case p.err != api.OK:
		return p.err
	case p.sure == len(p.rows):
		return api.OK
	case down:
		return p.fails(p.rows)
	}
	p.sure, p.good = len(p.rows), p.rows
	return api.OK
}

func (p *plain) compact(rows [][]byte, down bool) api.Errno {
	switch {
	case p.err != api.OK:
		return p.err
	case slices.ContainsFunc(rows, func(b []byte) bool { return len(b) > 16384 }):
		return api.ErrBig
	case bytesOf(rows) > p.room:
		return api.ErrFull
	case down:
		return p.fails(append([][]byte{}, rows...))
	}
	p.rows, p.good, p.sure = rows, rows, len(rows)
	return api.OK
}

func randomRow(r *rand.Rand) []byte {
	switch r.Intn(10) {
	case 0:
		return nil
	case 1:
		return random(r, 16384+r.Intn(3))
	case 2:
		return random(r, r.Intn(3000))
	}
	return random(r, r.Intn(300))
}

// step does one thing with a log and with a plain one, and holds their answers
// against each other; it answers the log, which a crash opens anew.
func step(t *testing.T, r *rand.Rand, l *wal.Log, d *disk.Disk, p *plain) *wal.Log {
	t.Helper()
	switch x := r.Intn(40); {
	case x < 22:
		b := randomRow(r)
		err := l.Append(b)
		expectError(t, "Append", err, p.append(b, d.Dead()))
	case x < 30:
		err := l.Sync()
		expectError(t, "Sync", err, p.sync(d.Dead()))
	case x < 33:
		var rows [][]byte
		for range r.Intn(6) {
			rows = append(rows, randomRow(r))
		}
		err := l.Compact(rows)
		expectError(t, "Compact", err, p.compact(rows, d.Dead()))
	case x < 36:
		d.Fail(r.Intn(40))
	default:
		front := make([]byte, r.Intn(30))
		for k := range front {
			front[k] = []byte{0, 255, byte(r.Intn(256))}[r.Intn(3)]
		}
		d.Crash(front)
		l = opened(t, d)
		got := l.Records()
		if !same(got, p.good) && !(p.perhaps && same(got, p.next)) {
			t.Fatalf("behind a crash %d records are there: neither what was sure, nor what was about to be", len(got))
		}
		*p = plain{room: p.room, rows: got, good: got, sure: len(got)}
	}
	return l
}

func TestAllAgainstAPlainLog(t *testing.T) {
	for seed := range int64(200) {
		r := rand.New(rand.NewSource(seed))
		n := []int{4, 5, 8, 20, 60, 300, 301}[r.Intn(7)]
		l, d := fresh(t, n)
		p := &plain{room: (n - 2) / 2 * 256}
		for range 150 {
			l = step(t, r, l, d, p)
			expect(t, l, p.rows, p.sure, p.free())
			expectError(t, "Err", l.Err(), p.err)
			if t.Failed() {
				t.Fatalf("seed %d", seed)
			}
		}
	}
}
