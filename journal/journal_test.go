package journal_test

import (
	"bytes"
	"encoding/binary"
	"hash/crc32"
	"math"
	"slices"
	"testing"

	"swingbridge/api"
	"swingbridge/disk"
	"swingbridge/journal"
)

const top = uint64(1) << 62

// drawn is a picture as the chapter words it, with the library's own means.
func drawn(number uint64, length uint32, b []byte) []byte {
	p := binary.LittleEndian.AppendUint64(nil, number)
	p = binary.LittleEndian.AppendUint32(p, length)
	p = binary.LittleEndian.AppendUint32(p, crc32.ChecksumIEEE(slices.Concat(p, b)))
	p = append(p, b...)
	for len(p)%api.Sector != 0 {
		p = append(p, 0)
	}
	return p
}

func beginning(number uint64) []byte { return drawn(number, math.MaxUint32, nil) }

func record(number uint64, b []byte) []byte { return drawn(number, uint32(len(b)), b) }

// bytesOf is bytes of which no two hundred are the same, and which hang on the seed.
func bytesOf(seed, n int) []byte {
	out := make([]byte, n)
	c := uint32(seed)*2654435761 + 1
	for i := range out {
		c = c*1664525 + 1013904223
		out[i] = byte(c >> 24)
	}
	return out
}

func newDisk(t *testing.T, sectors int) *disk.Disk {
	t.Helper()
	d, e := disk.New(sectors)
	if e != api.OK {
		t.Fatalf("disk.New(%d): %v", sectors, e)
	}
	return d
}

// laid writes pictures one behind the other, from a sector on.
func laid(t *testing.T, d *disk.Disk, at int, pictures ...[]byte) {
	t.Helper()
	for sector := range slices.Chunk(slices.Concat(pictures...), api.Sector) {
		if e := d.Write(at, sector); e != api.OK {
			t.Fatalf("Write(%d): %v", at, e)
		}
		at++
	}
	if e := d.Barrier(); e != api.OK {
		t.Fatalf("Barrier: %v", e)
	}
}

// contents is all that a disk holds.
func contents(t *testing.T, d *disk.Disk) []byte {
	t.Helper()
	var all []byte
	for at := range d.Sectors() {
		b, e := d.Read(at)
		if e != api.OK {
			t.Fatalf("Read(%d): %v", at, e)
		}
		all = append(all, b...)
	}
	return all
}

func contains(t *testing.T, d *disk.Disk, want ...[]byte) {
	t.Helper()
	whole := slices.Concat(want...)
	whole = append(whole, make([]byte, d.Sectors()*api.Sector-len(whole))...)
	got := contents(t, d)
	for at := range d.Sectors() {
		a, b := at*api.Sector, (at+1)*api.Sector
		if !bytes.Equal(got[a:b], whole[a:b]) {
			t.Errorf("sector %d: % x.., want % x..", at, got[a:a+20], whole[a:a+20])
		}
	}
}

func formatted(t *testing.T, d *disk.Disk, from, sectors int) *journal.Journal {
	t.Helper()
	j, e := journal.Format(d, from, sectors)
	if e != api.OK || j == nil {
		t.Fatalf("Format(%d, %d): %v", from, sectors, e)
	}
	return j
}

// opened opens a journal that must tell these records.
func opened(t *testing.T, d *disk.Disk, from, sectors int, want ...[]byte) *journal.Journal {
	t.Helper()
	j, got, e := journal.Open(d, from, sectors)
	if e != api.OK || j == nil {
		t.Fatalf("Open(%d, %d): %v", from, sectors, e)
	}
	if !slices.EqualFunc(got, want, bytes.Equal) {
		t.Fatalf("Open(%d, %d): %d records, want %d, or others", from, sectors, len(got), len(want))
	}
	return j
}

func appended(t *testing.T, j *journal.Journal, records ...[]byte) {
	t.Helper()
	for _, b := range records {
		if e := j.Append(b); e != api.OK {
			t.Fatalf("Append of %d bytes: %v", len(b), e)
		}
	}
}

func committed(t *testing.T, j *journal.Journal) {
	t.Helper()
	if e := j.Commit(); e != api.OK {
		t.Fatalf("Commit: %v", e)
	}
}

func wasReset(t *testing.T, j *journal.Journal) {
	t.Helper()
	if e := j.Reset(); e != api.OK {
		t.Fatalf("Reset: %v", e)
	}
}

func stands(t *testing.T, j *journal.Journal, next uint64, room int) {
	t.Helper()
	if j.Next() != next || j.Room() != room {
		t.Errorf("Next %d, Room %d, want %d, %d", j.Next(), j.Room(), next, room)
	}
}

// takes tells how many operations of the disk something may take.
func takes(t *testing.T, d *disk.Disk, ops int, do func()) {
	t.Helper()
	before := d.Ops()
	do()
	if got := d.Ops() - before; got != ops {
		t.Errorf("%d operations, want %d", got, ops)
	}
}

func crashed(t *testing.T, d *disk.Disk, keep []bool) {
	t.Helper()
	d.Crash(keep)
	started(t, d)
}

func started(t *testing.T, d *disk.Disk) {
	t.Helper()
	if e := d.Start(); e != api.OK {
		t.Fatalf("Start: %v", e)
	}
}

// kept is a keep by the bits of a number.
func kept(mask, size int) []bool {
	keep := make([]bool, size)
	for i := range keep {
		keep[i] = mask>>i&1 == 1
	}
	return keep
}

func TestC1WrongSectors(t *testing.T) {
	d := newDisk(t, 8)
	for _, x := range [][2]int{
		{0, 1}, {0, 0}, {0, -1}, {3, 1}, {0, math.MinInt}, {7, 1},
		{-1, 2}, {-1, 9}, {-8, 8}, {math.MinInt, 2}, {math.MinInt, math.MinInt},
		{0, 9}, {1, 8}, {6, 3}, {7, 2}, {8, 2}, {9, 2}, {100, 4},
		{math.MaxInt, 2}, {2, math.MaxInt}, {math.MaxInt, math.MaxInt}, {1 << 62, 1 << 62}, {-1, math.MaxInt},
	} {
		takes(t, d, 0, func() {
			if j, e := journal.Format(d, x[0], x[1]); e != api.ErrArg || j != nil {
				t.Errorf("Format%v: %v, %v", x, j, e)
			}
			if j, l, e := journal.Open(d, x[0], x[1]); e != api.ErrArg || j != nil || l != nil {
				t.Errorf("Open%v: %v, %v, %v", x, j, l, e)
			}
		})
	}
	contains(t, d)
	for _, x := range [][2]int{{0, 2}, {0, 8}, {6, 2}, {1, 7}} {
		formatted(t, d, x[0], x[1])
		opened(t, d, x[0], x[1])
	}
}

func TestC1WrongSectorsOfADiskThatIsDown(t *testing.T) {
	d := newDisk(t, 4)
	d.Crash(nil)
	if j, e := journal.Format(d, 0, 1); e != api.ErrArg || j != nil {
		t.Errorf("Format: %v", e)
	}
	if j, l, e := journal.Open(d, 3, 2); e != api.ErrArg || j != nil || l != nil {
		t.Errorf("Open: %v", e)
	}
}

func TestC1NoDisk(t *testing.T) {
	for _, d := range []*disk.Disk{nil, {}} {
		if j, e := journal.Format(d, 0, 2); e != api.ErrArg || j != nil {
			t.Errorf("Format: %v", e)
		}
		if j, l, e := journal.Open(d, 0, 2); e != api.ErrArg || j != nil || l != nil {
			t.Errorf("Open: %v", e)
		}
	}
}

func TestC1FormatWritesABeginningAndABarrier(t *testing.T) {
	d := newDisk(t, 5)
	takes(t, d, 2, func() {
		stands(t, formatted(t, d, 2, 3), 2, 2*512-16)
	})
	crashed(t, d, nil)
	contains(t, d, make([]byte, 1024), beginning(1))
	first, _ := d.Read(2)
	if want := []byte{1, 0, 0, 0, 0, 0, 0, 0, 255, 255, 255, 255}; !bytes.Equal(first[:12], want) {
		t.Errorf("% x", first[:12])
	}
	stands(t, opened(t, d, 2, 3), 2, 2*512-16)
}

func TestC1FormatOverRecords(t *testing.T) {
	d := newDisk(t, 4)
	laid(t, d, 0, beginning(7), record(8, []byte("old")), record(9, nil))
	stands(t, formatted(t, d, 0, 4), 2, 3*512-16)
	contains(t, d, beginning(1), record(8, []byte("old")), record(9, nil))
	opened(t, d, 0, 4)
}

func TestC1FormatHandsOnWhatTheDiskSays(t *testing.T) {
	for n := range 2 {
		d := newDisk(t, 4)
		d.Arm(n, []bool{true})
		if j, e := journal.Format(d, 0, 4); e != api.ErrDown || j != nil {
			t.Errorf("a crash behind %d: %v, %v", n, j, e)
		}
		if j, e := journal.Format(d, 0, 4); e != api.ErrDown || j != nil {
			t.Errorf("down: %v, %v", j, e)
		}
		started(t, d)
		contains(t, d, beginning(1)[:n*512])
	}
}

func TestC1OpenHandsOnWhatTheDiskSays(t *testing.T) {
	d := newDisk(t, 8)
	laid(t, d, 0, beginning(1), record(2, bytesOf(1, 1200)), record(3, nil))
	const reads = 1 + 3 + 1 + 1
	for n := range reads {
		d.Arm(n, nil)
		if j, l, e := journal.Open(d, 0, 8); e != api.ErrDown || j != nil || l != nil {
			t.Errorf("a crash behind %d: %v, %v", n, l, e)
		}
		if j, l, e := journal.Open(d, 0, 8); e != api.ErrDown || j != nil || l != nil {
			t.Errorf("down: %v, %v", l, e)
		}
		started(t, d)
	}
	d.Arm(reads, nil)
	opened(t, d, 0, 8, bytesOf(1, 1200), nil)
}

func TestC1NoBeginning(t *testing.T) {
	wrongSum := beginning(1)
	wrongSum[15] ^= 1
	wrongNumber := beginning(1)
	wrongNumber[0] = 2
	zeroSum := beginning(1)
	clear(zeroSum[12:16])
	ones := bytes.Repeat([]byte{255}, 512)
	for name, sector := range map[string][]byte{
		"zeros":              make([]byte, 512),
		"ones":               ones,
		"a sum that differs": wrongSum,
		"a sum of another":   wrongNumber,
		"no sum":             zeroSum,
		"a record":           record(1, nil),
		"a record of bytes":  record(1, []byte("abc")),
		"a length less":      drawn(1, math.MaxUint32-1, nil),
		"number 0":           beginning(0),
		"number 2^62 + 1":    beginning(top + 1),
		"number 2^63":        beginning(1 << 63),
		"number 2^64 - 1":    beginning(math.MaxUint64),
		"bytes in the sum":   drawn(1, math.MaxUint32, []byte("x")),
	} {
		d := newDisk(t, 4)
		laid(t, d, 1, sector, record(2, nil))
		takes(t, d, 1, func() {
			if j, l, e := journal.Open(d, 1, 3); e != api.ErrForm || j != nil || l != nil {
				t.Errorf("%s: %v, %v", name, l, e)
			}
		})
	}
}

func TestC1BeginningsOfAnyNumber(t *testing.T) {
	for _, n := range []uint64{1, 2, 255, 256, 1<<32 - 1, 1 << 32, 0x0123456789ABCDEF, top - 2} {
		d := newDisk(t, 4)
		laid(t, d, 0, beginning(n), record(n+1, []byte("a")), record(n+2, []byte("b")))
		stands(t, opened(t, d, 0, 4, []byte("a"), []byte("b")), n+3, 512-16)
	}
}

func TestC1BehindABeginningAnythingMayStand(t *testing.T) {
	d := newDisk(t, 3)
	first := append(beginning(5)[:16], bytesOf(9, 496)...)
	laid(t, d, 0, first, record(6, []byte("a")))
	stands(t, opened(t, d, 0, 3, []byte("a")), 7, 512-16)
}

func TestC1PaddingDoesNotMatter(t *testing.T) {
	d := newDisk(t, 6)
	one := append(record(2, []byte("one"))[:19], bytesOf(1, 493)...)
	two := append(record(3, bytesOf(2, 600))[:616], bytesOf(3, 408)...)
	laid(t, d, 0, beginning(1), one, two, bytesOf(4, 1024))
	stands(t, opened(t, d, 0, 6, []byte("one"), bytesOf(2, 600)), 4, 2*512-16)
}

// lengths are those around what fills sectors.
func lengths() []int { return []int{0, 1, 2, 495, 496, 497, 1007, 1008, 1009, 1519, 1520, 1521, 2032} }

func TestC1RecordsOfAnyLength(t *testing.T) {
	for _, n := range lengths() {
		d := newDisk(t, 8)
		b := bytesOf(n, n)
		laid(t, d, 1, beginning(1), record(2, b), record(3, []byte("end")))
		used := len(record(2, b))/512 + 1
		j := opened(t, d, 1, 7, b, []byte("end"))
		want := (6-used)*512 - 16
		if used == 6 {
			want = -1
		}
		stands(t, j, 4, want)
	}
}

func TestC1RecordsEndWhereNoneStands(t *testing.T) {
	wrongSum := record(3, []byte("next"))
	wrongSum[13] ^= 0x80
	wrongByte := record(3, []byte("next"))
	wrongByte[19] ^= 1
	for name, p := range map[string][]byte{
		"zeros":               make([]byte, 512),
		"ones":                bytes.Repeat([]byte{255}, 512),
		"the number again":    record(2, []byte("next")),
		"a number too many":   record(4, []byte("next")),
		"number 0":            record(0, []byte("next")),
		"a high bit too many": record(3|1<<63, []byte("next")),
		"a beginning":         beginning(3),
		"a sum that differs":  wrongSum,
		"a byte that differs": wrongByte,
		"a length too small":  drawn(3, 3, []byte("next")),
		"a length too great":  drawn(3, 5, []byte("next")),
		"no room":             drawn(3, 1009, []byte("next")),
		"no room at all":      drawn(3, math.MaxUint32-1, nil),
	} {
		d := newDisk(t, 4)
		laid(t, d, 0, beginning(1), record(2, []byte("first")), p, record(4, []byte("behind")))
		t.Run(name, func(t *testing.T) {
			takes(t, d, 3, func() { stands(t, opened(t, d, 0, 4, []byte("first")), 3, 2*512-16) })
		})
	}
}

func TestC1EachBitOfARecordCounts(t *testing.T) {
	d := newDisk(t, 4)
	for bit := range 8 * (16 + 500) {
		p := record(2, bytesOf(5, 500))
		p[bit/8] ^= 1 << (bit % 8)
		laid(t, d, 0, beginning(1), p)
		opened(t, d, 0, 4)
	}
	for bit := range 8 * 16 {
		p := beginning(1)
		p[bit/8] ^= 1 << (bit % 8)
		laid(t, d, 0, p)
		if _, _, e := journal.Open(d, 0, 4); e != api.ErrForm {
			t.Errorf("bit %d of a beginning: %v", bit, e)
		}
	}
}

func TestC1OpenReadsWhatIsTold(t *testing.T) {
	long := bytesOf(1, 1200)
	torn := record(2, long)
	torn[1024] ^= 1
	for name, x := range map[string]struct {
		sectors, reads int
		pictures       [][]byte
		want           [][]byte
	}{
		"a beginning alone":           {2, 2, [][]byte{beginning(1)}, nil},
		"a record at the end":         {2, 2, [][]byte{beginning(1), record(2, nil)}, [][]byte{nil}},
		"a record, and one left":      {3, 3, [][]byte{beginning(1), record(2, nil)}, [][]byte{nil}},
		"a long one at the end":       {4, 4, [][]byte{beginning(1), record(2, long)}, [][]byte{long}},
		"a long one, and some left":   {8, 5, [][]byte{beginning(1), record(2, long)}, [][]byte{long}},
		"a long one that is torn":     {8, 4, [][]byte{beginning(1), torn}, nil},
		"a long one without room":     {3, 2, [][]byte{beginning(1), record(2, long)}, nil},
		"a long one of a number off":  {8, 2, [][]byte{beginning(1), record(3, long)}, nil},
		"all numbers are used":        {4, 1, [][]byte{beginning(top), record(top+1, nil)}, nil},
		"the last number is used":     {4, 2, [][]byte{beginning(top - 1), record(top, long[:9]), record(top+1, nil)}, [][]byte{long[:9]}},
		"the last number is not used": {4, 2, [][]byte{beginning(top - 1)}, nil},
	} {
		t.Run(name, func(t *testing.T) {
			d := newDisk(t, 12)
			laid(t, d, 2, x.pictures...)
			takes(t, d, x.reads, func() { opened(t, d, 2, x.sectors, x.want...) })
		})
	}
}

func TestC1OpenChangesNothing(t *testing.T) {
	d := newDisk(t, 6)
	laid(t, d, 0, beginning(1), record(2, []byte("a")), bytesOf(3, 1024), record(3, nil))
	before := contents(t, d)
	opened(t, d, 0, 6, []byte("a"))
	if _, _, e := journal.Open(d, 2, 3); e != api.ErrForm {
		t.Errorf("Open: %v", e)
	}
	if !bytes.Equal(before, contents(t, d)) {
		t.Error("the disk was changed")
	}
}

func TestC1OpenReadsWhatWaits(t *testing.T) {
	d := newDisk(t, 4)
	j := formatted(t, d, 0, 4)
	appended(t, j, []byte("waits"))
	opened(t, d, 0, 4, []byte("waits"))
	crashed(t, d, nil)
	opened(t, d, 0, 4)
}

func TestC1AnswersAreTheCallers(t *testing.T) {
	d := newDisk(t, 8)
	want := [][]byte{bytesOf(1, 5), bytesOf(2, 700), {}, bytesOf(3, 20)}
	appended(t, formatted(t, d, 0, 8), want...)
	j, got, e := journal.Open(d, 0, 8)
	if e != api.OK {
		t.Fatalf("Open: %v", e)
	}
	for i := range got {
		clear(got[i])
		got[i] = append(got[i], bytes.Repeat([]byte{0xEE}, 600)...)
		for k := i + 1; k < len(got); k++ {
			if !bytes.Equal(got[k], want[k]) {
				t.Errorf("record %d shares memory with %d", k, i)
			}
		}
	}
	appended(t, j, []byte("more"))
	opened(t, d, 0, 8, append(want, []byte("more"))...)
}

func TestC1GoesOnBehindOpen(t *testing.T) {
	d := newDisk(t, 8)
	j := formatted(t, d, 0, 8)
	appended(t, j, []byte("a"), bytesOf(1, 600))
	committed(t, j)
	k := opened(t, d, 0, 8, []byte("a"), bytesOf(1, 600))
	stands(t, k, j.Next(), j.Room())
	appended(t, k, []byte("b"))
	contains(t, d, beginning(1), record(2, []byte("a")), record(3, bytesOf(1, 600)), record(4, []byte("b")))
	opened(t, d, 0, 8, []byte("a"), bytesOf(1, 600), []byte("b"))
}

func TestC2AppendWritesPictures(t *testing.T) {
	for _, n := range lengths() {
		d := newDisk(t, 9)
		j := formatted(t, d, 1, 7)
		first, b := bytesOf(1, 3), bytesOf(2, n)
		appended(t, j, first, b)
		contains(t, d, make([]byte, 512), beginning(1), record(2, first), record(3, b))
		left := 5 - len(record(3, b))/512
		want := left*512 - 16
		if left == 0 {
			want = -1
		}
		stands(t, j, 4, want)
		opened(t, d, 1, 7, first, b)
	}
}

func TestC2AppendOfNil(t *testing.T) {
	d := newDisk(t, 3)
	j := formatted(t, d, 0, 3)
	appended(t, j, nil, []byte{})
	stands(t, j, 4, -1)
	contains(t, d, beginning(1), record(2, nil), record(3, nil))
	opened(t, d, 0, 3, nil, nil)
}

func TestC2AppendTakesOperations(t *testing.T) {
	for _, x := range [][2]int{{0, 1}, {496, 1}, {497, 3}, {1008, 3}, {1009, 4}, {2544, 6}} {
		d := newDisk(t, 8)
		j := formatted(t, d, 0, 8)
		takes(t, d, x[1], func() { appended(t, j, bytesOf(1, x[0])) })
	}
}

// TestC2AppendWritesTheFirstSectorLast looks at the disk as it is when a crash that keeps all comes behind n operations.
func TestC2AppendWritesTheFirstSectorLast(t *testing.T) {
	b := bytesOf(1, 1200)
	p := record(2, b)
	none := make([]byte, 512)
	for n, want := range [][][]byte{
		{none, none, none},
		{none, p[512:1024], none},
		{none, p[512:1024], p[1024:]},
		{none, p[512:1024], p[1024:]},
	} {
		d := newDisk(t, 5)
		j := formatted(t, d, 0, 5)
		d.Arm(n, kept(-1, 8))
		if e := j.Append(b); e != api.ErrDown {
			t.Errorf("a crash behind %d: %v", n, e)
		}
		started(t, d)
		contains(t, d, append([][]byte{beginning(1)}, want...)...)
		opened(t, d, 0, 5)
	}
}

func TestC2AppendBarriersAllButTheFirstSector(t *testing.T) {
	b := bytesOf(1, 1200)
	p := record(2, b)
	d := newDisk(t, 5)
	j := formatted(t, d, 0, 5)
	appended(t, j, b)
	crashed(t, d, nil)
	contains(t, d, beginning(1), make([]byte, 512), p[512:])
	d = newDisk(t, 5)
	j = formatted(t, d, 0, 5)
	appended(t, j, b)
	crashed(t, d, []bool{true})
	contains(t, d, beginning(1), p)
}

func TestC2AppendWithoutRoom(t *testing.T) {
	d := newDisk(t, 6)
	j := formatted(t, d, 0, 4)
	full := func(n int) {
		t.Helper()
		next, room := j.Next(), j.Room()
		takes(t, d, 0, func() {
			if e := j.Append(make([]byte, n)); e != api.ErrFull {
				t.Errorf("Append of %d bytes with room for %d: %v", n, room, e)
			}
		})
		stands(t, j, next, room)
	}
	stands(t, j, 2, 1520)
	full(1521)
	full(5000)
	appended(t, j, bytesOf(1, 496))
	stands(t, j, 3, 1008)
	full(1009)
	appended(t, j, bytesOf(2, 1008))
	stands(t, j, 4, -1)
	full(0)
	full(1)
	contains(t, d, beginning(1), record(2, bytesOf(1, 496)), record(3, bytesOf(2, 1008)))
	committed(t, j)
	opened(t, d, 0, 4, bytesOf(1, 496), bytesOf(2, 1008))
}

func TestC2AppendOfAllRoom(t *testing.T) {
	d := newDisk(t, api.MaxSector)
	j := formatted(t, d, 0, api.MaxSector)
	b := bytesOf(1, j.Room())
	if len(b) != 4095*512-16 {
		t.Errorf("Room: %d", len(b))
	}
	if e := j.Append(append(b, 0)); e != api.ErrFull {
		t.Errorf("Append: %v", e)
	}
	appended(t, j, b)
	stands(t, j, 3, -1)
	opened(t, d, 0, api.MaxSector, b)
}

func TestC2TheSmallestJournal(t *testing.T) {
	d := newDisk(t, 2)
	j := formatted(t, d, 0, 2)
	stands(t, j, 2, 496)
	if e := j.Append(make([]byte, 497)); e != api.ErrFull {
		t.Errorf("Append: %v", e)
	}
	appended(t, j, bytesOf(1, 496))
	stands(t, j, 3, -1)
	stands(t, opened(t, d, 0, 2, bytesOf(1, 496)), 3, -1)
	wasReset(t, j)
	stands(t, j, 4, 496)
}

func TestC2NumbersEnd(t *testing.T) {
	d := newDisk(t, 6)
	laid(t, d, 0, beginning(top-1))
	j := opened(t, d, 0, 6)
	stands(t, j, top, 5*512-16)
	appended(t, j, []byte("last"))
	stands(t, j, top+1, 4*512-16)
	takes(t, d, 0, func() {
		if a, b, c := j.Append(nil), j.Append([]byte("more")), j.Reset(); a != api.ErrFull || b != api.ErrFull || c != api.ErrFull {
			t.Errorf("Append %v, %v, Reset %v", a, b, c)
		}
	})
	stands(t, j, top+1, 4*512-16)
	committed(t, j)
	contains(t, d, beginning(top-1), record(top, []byte("last")))
	stands(t, opened(t, d, 0, 6, []byte("last")), top+1, 4*512-16)
}

func TestC2ResetToTheLastNumber(t *testing.T) {
	d := newDisk(t, 3)
	laid(t, d, 0, beginning(top-1))
	j := opened(t, d, 0, 3)
	wasReset(t, j)
	stands(t, j, top+1, 2*512-16)
	contains(t, d, beginning(top))
	if a, b := j.Append(nil), j.Reset(); a != api.ErrFull || b != api.ErrFull {
		t.Errorf("Append %v, Reset %v", a, b)
	}
	stands(t, opened(t, d, 0, 3), top+1, 2*512-16)
}

func TestC2CommitIsABarrier(t *testing.T) {
	d := newDisk(t, 4)
	j := formatted(t, d, 0, 4)
	appended(t, j, []byte("a"), []byte("b"))
	takes(t, d, 1, func() { committed(t, j) })
	stands(t, j, 4, 512-16)
	crashed(t, d, nil)
	contains(t, d, beginning(1), record(2, []byte("a")), record(3, []byte("b")))
	opened(t, d, 0, 4, []byte("a"), []byte("b"))
}

func TestC2WhatWasNotCommittedMayBeLost(t *testing.T) {
	d := newDisk(t, 4)
	j := formatted(t, d, 0, 4)
	appended(t, j, []byte("a"))
	committed(t, j)
	appended(t, j, []byte("b"))
	crashed(t, d, nil)
	contains(t, d, beginning(1), record(2, []byte("a")))
	stands(t, opened(t, d, 0, 4, []byte("a")), 3, 2*512-16)
}

func TestC2ResetWritesABeginning(t *testing.T) {
	d := newDisk(t, 6)
	j := formatted(t, d, 1, 4)
	appended(t, j, []byte("a"), []byte("b"))
	committed(t, j)
	takes(t, d, 1, func() { wasReset(t, j) })
	stands(t, j, 5, 3*512-16)
	contains(t, d, make([]byte, 512), beginning(4), record(2, []byte("a")), record(3, []byte("b")))
	stands(t, opened(t, d, 1, 4), 5, 3*512-16)
	appended(t, j, []byte("c"))
	contains(t, d, make([]byte, 512), beginning(4), record(5, []byte("c")), record(3, []byte("b")))
	committed(t, j)
	crashed(t, d, nil)
	opened(t, d, 1, 4, []byte("c"))
}

func TestC2ResetWaits(t *testing.T) {
	d := newDisk(t, 4)
	j := formatted(t, d, 0, 4)
	appended(t, j, []byte("a"))
	committed(t, j)
	wasReset(t, j)
	crashed(t, d, nil)
	stands(t, opened(t, d, 0, 4, []byte("a")), 3, 2*512-16)
}

func TestC2ResetOfNoRecords(t *testing.T) {
	d := newDisk(t, 2)
	j := formatted(t, d, 0, 2)
	for n := range uint64(5) {
		stands(t, j, n+2, 496)
		wasReset(t, j)
	}
	contains(t, d, beginning(6))
}

// calls are those that answer an error, each as it may go well, and Append as it may not.
func calls() map[string]func(j *journal.Journal) api.Errno {
	return map[string]func(j *journal.Journal) api.Errno{
		"Append":             func(j *journal.Journal) api.Errno { return j.Append([]byte("x")) },
		"Append of too much": func(j *journal.Journal) api.Errno { return j.Append(make([]byte, 9000)) },
		"Commit":             (*journal.Journal).Commit,
		"Reset":              (*journal.Journal).Reset,
	}
}

func TestC2BehindAnErrorAllAnswerErrDown(t *testing.T) {
	for name, do := range calls() {
		d := newDisk(t, 6)
		j := formatted(t, d, 0, 6)
		appended(t, j, []byte("a"))
		committed(t, j)
		d.Arm(0, nil)
		want := api.ErrDown
		if name == "Append of too much" {
			want = api.ErrFull
		}
		if e := do(j); e != want {
			t.Errorf("%s: %v", name, e)
		}
		if want == api.ErrFull {
			continue
		}
		stands(t, j, 3, 4*512-16)
		for other, do := range calls() {
			if e := do(j); e != api.ErrDown {
				t.Errorf("%s behind %s, down: %v", other, name, e)
			}
		}
		started(t, d)
		takes(t, d, 0, func() {
			for other, do := range calls() {
				if e := do(j); e != api.ErrDown {
					t.Errorf("%s behind %s, up: %v", other, name, e)
				}
			}
		})
		stands(t, j, 3, 4*512-16)
		k := opened(t, d, 0, 6, []byte("a"))
		appended(t, k, []byte("b"))
		committed(t, k)
		opened(t, d, 0, 6, []byte("a"), []byte("b"))
	}
}

func TestC2BehindErrDownNumbersThatEndDoNotCount(t *testing.T) {
	d := newDisk(t, 2)
	laid(t, d, 0, beginning(top))
	j := opened(t, d, 0, 2)
	d.Crash(nil)
	if a, b, c := j.Append(nil), j.Reset(), j.Commit(); a != api.ErrFull || b != api.ErrFull || c != api.ErrDown {
		t.Errorf("%v %v %v", a, b, c)
	}
	if a, b := j.Append(nil), j.Reset(); a != api.ErrDown || b != api.ErrDown {
		t.Errorf("%v %v", a, b)
	}
}

func TestC2ErrFullLeavesItOfUse(t *testing.T) {
	d := newDisk(t, 3)
	j := formatted(t, d, 0, 3)
	if e := j.Append(make([]byte, 1009)); e != api.ErrFull {
		t.Errorf("Append: %v", e)
	}
	appended(t, j, bytesOf(1, 1008))
	if e := j.Append(nil); e != api.ErrFull {
		t.Errorf("Append: %v", e)
	}
	committed(t, j)
	wasReset(t, j)
	appended(t, j, []byte("a"))
	opened(t, d, 0, 3, []byte("a"))
}

func TestC2AnErrorInAnyOperation(t *testing.T) {
	const ops = 5 // of three other sectors, a barrier, and the first sector
	for n := range ops {
		d := newDisk(t, 8)
		j := formatted(t, d, 0, 8)
		d.Arm(n, nil)
		if e := j.Append(bytesOf(1, 2000)); e != api.ErrDown {
			t.Errorf("a crash behind %d: %v", n, e)
		}
		stands(t, j, 2, 7*512-16)
		started(t, d)
		if e := j.Commit(); e != api.ErrDown {
			t.Errorf("Commit: %v", e)
		}
		opened(t, d, 0, 8)
	}
	d := newDisk(t, 8)
	j := formatted(t, d, 0, 8)
	d.Arm(ops, nil)
	appended(t, j, bytesOf(1, 2000))
}

func TestC2BytesAreNotKept(t *testing.T) {
	d := newDisk(t, 6)
	j := formatted(t, d, 0, 6)
	whole := bytesOf(1, 1000)
	handed := whole[100:800]
	appended(t, j, handed)
	if !bytes.Equal(whole, bytesOf(1, 1000)) {
		t.Error("bytes were changed")
	}
	clear(whole)
	committed(t, j)
	opened(t, d, 0, 6, bytesOf(1, 1000)[100:800])
}

func TestC2JournalsAreApart(t *testing.T) {
	d := newDisk(t, 8)
	edge := bytesOf(1, 512)
	laid(t, d, 0, edge)
	laid(t, d, 7, edge)
	a, b := formatted(t, d, 1, 3), formatted(t, d, 4, 3)
	appended(t, a, bytesOf(2, 1008))
	appended(t, b, []byte("b"))
	wasReset(t, b)
	stands(t, a, 3, -1)
	stands(t, b, 4, 1008)
	appended(t, b, []byte("c"), []byte("d"))
	contains(t, d, edge, beginning(1), record(2, bytesOf(2, 1008)), beginning(3), record(4, []byte("c")), record(5, []byte("d")), edge)
	opened(t, d, 1, 3, bytesOf(2, 1008))
	opened(t, d, 4, 3, []byte("c"), []byte("d"))
}

// history appends records, and commits behind those of it that are told; it answers how many were committed, and how many begun.
func history(j *journal.Journal, records [][]byte, commits []int) (sure, begun int) {
	for i, b := range records {
		begun = i + 1
		if j.Append(b) != api.OK {
			return sure, begun
		}
		if slices.Contains(commits, i) && j.Commit() == api.OK {
			sure = i + 1
		}
	}
	return sure, begun
}

// TestC2BehindAnyCrash lets the disk crash behind any operation, keeping any of the writes that wait.
func TestC2BehindAnyCrash(t *testing.T) {
	records := [][]byte{[]byte("a"), bytesOf(1, 1200), {}, bytesOf(2, 600), []byte("e"), []byte("f"), bytesOf(3, 497)}
	for _, commits := range [][]int{nil, {0}, {1, 4}, {0, 1, 2, 3, 4, 5, 6}} {
		for n := range 25 {
			for mask := range 1 << 6 {
				d := newDisk(t, 14)
				j := formatted(t, d, 1, 12)
				d.Arm(n, kept(mask, 6))
				sure, begun := history(j, records, commits)
				d.Crash(nil)
				started(t, d)
				_, got, e := journal.Open(d, 1, 12)
				if e != api.OK || len(got) < sure || len(got) > begun || !slices.EqualFunc(got, records[:len(got)], bytes.Equal) {
					t.Fatalf("commits %v, a crash behind %d, kept %b: %v, %d records of %d to %d", commits, n, mask, e, len(got), sure, begun)
				}
			}
		}
	}
}

func TestC2TheSameCallsHaveTheSameAnswers(t *testing.T) {
	run := func() []byte {
		d := newDisk(t, 8)
		j := formatted(t, d, 0, 8)
		appended(t, j, bytesOf(1, 700), nil)
		wasReset(t, j)
		appended(t, j, bytesOf(2, 1200))
		committed(t, j)
		return contents(t, d)
	}
	if !bytes.Equal(run(), run()) {
		t.Error("two runs differ")
	}
}
