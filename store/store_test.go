package store_test

import (
	"bytes"
	"encoding/binary"
	"hash/crc32"
	"math"
	"slices"
	"testing"

	"swingbridge/api"
	"swingbridge/disk"
	"swingbridge/store"
)

const top = uint64(1) << 62

// drawn is a picture as the journal's chapter words it, with the library's own means.
func drawn(number uint64, length uint32, b []byte) []byte {
	p := binary.LittleEndian.AppendUint64(nil, number)
	p = binary.LittleEndian.AppendUint32(p, length)
	p = binary.LittleEndian.AppendUint32(p, crc32.ChecksumIEEE(slices.Concat(p, b)))
	p = append(p, b...)
	for len(p)%api.Sector != 0 {
		p = append(p, 0)
	}
	return p
}

func beginning(number uint64) []byte { return drawn(number, math.MaxUint32, nil) }

func record(number uint64, b []byte) []byte { return drawn(number, uint32(len(b)), b) }

// counted is a record's bytes: a count, and a thing.
func counted(count uint64, thing string) []byte {
	return append(binary.LittleEndian.AppendUint64(nil, count), thing...)
}

// saved is the picture of a thing that was saved.
func saved(number, count uint64, thing string) []byte { return record(number, counted(count, thing)) }

// textOf is bytes that hang on the seed, and do not repeat soon.
func textOf(seed, n int) string {
	out := make([]byte, n)
	c := uint32(seed)*2654435761 + 1
	for i := range out {
		c = c*1664525 + 1013904223
		out[i] = byte(c >> 24)
	}
	return string(out)
}

func newDisk(t *testing.T, sectors int) *disk.Disk {
	t.Helper()
	d, e := disk.New(sectors)
	if e != api.OK {
		t.Fatalf("disk.New(%d): %v", sectors, e)
	}
	return d
}

// laid writes pictures one behind the other, from a sector on.
func laid(t *testing.T, d *disk.Disk, at int, pictures ...[]byte) {
	t.Helper()
	for sector := range slices.Chunk(slices.Concat(pictures...), api.Sector) {
		if e := d.Write(at, sector); e != api.OK {
			t.Fatalf("Write(%d): %v", at, e)
		}
		at++
	}
	if e := d.Barrier(); e != api.OK {
		t.Fatalf("Barrier: %v", e)
	}
}

// contents is all that a disk holds.
func contents(t *testing.T, d *disk.Disk) []byte {
	t.Helper()
	var all []byte
	for at := range d.Sectors() {
		b, e := d.Read(at)
		if e != api.OK {
			t.Fatalf("Read(%d): %v", at, e)
		}
		all = append(all, b...)
	}
	return all
}

// filled is pictures, and 0s behind them up to so many sectors.
func filled(sectors int, pictures ...[]byte) []byte {
	b := slices.Concat(pictures...)
	return append(b, make([]byte, sectors*api.Sector-len(b))...)
}

// contains looks at a disk: first and second are what its halves hold, and all else is 0.
func contains(t *testing.T, d *disk.Disk, first, second [][]byte) {
	t.Helper()
	h := d.Sectors() / 2
	want := filled(d.Sectors(), filled(h, first...), filled(h, second...))
	got := contents(t, d)
	for at := range d.Sectors() {
		a, b := at*api.Sector, (at+1)*api.Sector
		if !bytes.Equal(got[a:b], want[a:b]) {
			t.Errorf("sector %d: % x.., want % x..", at, got[a:a+28], want[a:a+28])
		}
	}
}

func formatted(t *testing.T, d *disk.Disk) *store.Store {
	t.Helper()
	s, e := store.Format(d)
	if e != api.OK || s == nil {
		t.Fatalf("Format: %v", e)
	}
	return s
}

func opened(t *testing.T, d *disk.Disk) *store.Store {
	t.Helper()
	s, e := store.Open(d)
	if e != api.OK || s == nil {
		t.Fatalf("Open: %v", e)
	}
	return s
}

func put(t *testing.T, s *store.Store, things ...string) {
	t.Helper()
	for _, x := range things {
		if e := s.Save([]byte(x)); e != api.OK {
			t.Fatalf("Save of %d bytes: %v", len(x), e)
		}
	}
}

func keeps(t *testing.T, s *store.Store, want string) {
	t.Helper()
	if b, e := s.Load(); e != api.OK || string(b) != want {
		t.Errorf("Load: %v, %.20q (%d bytes), want %.20q (%d bytes)", e, b, len(b), want, len(want))
	}
}

func keepsNothing(t *testing.T, s *store.Store) {
	t.Helper()
	if b, e := s.Load(); e != api.ErrNone || b != nil {
		t.Errorf("Load: %v, %q", e, b)
	}
}

func started(t *testing.T, d *disk.Disk) {
	t.Helper()
	if e := d.Start(); e != api.OK {
		t.Fatalf("Start: %v", e)
	}
}

func crashed(t *testing.T, d *disk.Disk) {
	t.Helper()
	d.Crash(nil)
	started(t, d)
}

// takes tells how many operations of the disk something may take.
func takes(t *testing.T, d *disk.Disk, ops int, do func()) {
	t.Helper()
	before := d.Ops()
	do()
	if got := d.Ops() - before; got != ops {
		t.Errorf("%d operations, want %d", got, ops)
	}
}

// bitsOf is a keep by the bits of a number.
func bitsOf(mask, size int) []bool {
	keep := make([]bool, size)
	for i := range keep {
		keep[i] = mask>>i&1 == 1
	}
	return keep
}

func refuses(t *testing.T, d *disk.Disk, want api.Errno) {
	t.Helper()
	if s, e := store.Format(d); e != want || s != nil {
		t.Errorf("Format: %v, %v, want %v", s, e, want)
	}
	if s, e := store.Open(d); e != want || s != nil {
		t.Errorf("Open: %v, %v, want %v", s, e, want)
	}
}

func TestD1DisksThatAreTooSmall(t *testing.T) {
	refuses(t, nil, api.ErrArg)
	refuses(t, &disk.Disk{}, api.ErrArg)
	for n := 1; n < 4; n++ {
		d := newDisk(t, n)
		takes(t, d, 0, func() { refuses(t, d, api.ErrArg) })
		d.Crash(nil)
		refuses(t, d, api.ErrArg)
		started(t, d)
		contains(t, d, nil, nil)
	}
}

func TestD1DisksThatAreDown(t *testing.T) {
	d := newDisk(t, 4)
	d.Crash(nil)
	refuses(t, d, api.ErrDown)
	started(t, d)
	put(t, formatted(t, d), "x")
	d.Crash(nil)
	refuses(t, d, api.ErrDown)
	started(t, d)
	keeps(t, opened(t, d), "x")
}

func TestD1FormatMakesTwoJournals(t *testing.T) {
	for n := 4; n <= 11; n++ {
		d := newDisk(t, n)
		takes(t, d, 4, func() { keepsNothing(t, formatted(t, d)) })
		crashed(t, d)
		contains(t, d, [][]byte{beginning(1)}, [][]byte{beginning(1)})
		keepsNothing(t, opened(t, d))
	}
}

func TestD1FormatFindsACrash(t *testing.T) {
	one := [][]byte{beginning(1)}
	for n, want := range [][2][][]byte{{nil, nil}, {one, nil}, {one, nil}, {one, one}} {
		d := newDisk(t, 6)
		d.Arm(n, bitsOf(-1, 4))
		if s, e := store.Format(d); e != api.ErrDown || s != nil {
			t.Errorf("a crash behind %d: %v, %v", n, s, e)
		}
		started(t, d)
		contains(t, d, want[0], want[1])
	}
	d := newDisk(t, 6)
	d.Arm(4, nil)
	keepsNothing(t, formatted(t, d))
}

func TestD1FormatOverAStore(t *testing.T) {
	d := newDisk(t, 6)
	put(t, formatted(t, d), "a", "b")
	s := formatted(t, d)
	keepsNothing(t, s)
	contains(t, d, [][]byte{beginning(1), saved(3, 1, "a")}, [][]byte{beginning(1), saved(3, 2, "b")})
	keepsNothing(t, opened(t, d))
	put(t, s, "c")
	keeps(t, s, "c")
	keeps(t, opened(t, d), "c")
}

func TestD1OpenOfNoStore(t *testing.T) {
	wrong := beginning(1)
	wrong[12] ^= 1
	for name, x := range map[string]struct {
		first, second []byte
		reads         int
	}{
		"zeros":             {nil, nil, 1},
		"no first half":     {nil, beginning(1), 1},
		"no second half":    {beginning(1), nil, 3},
		"a wrong first sum": {wrong, beginning(1), 1},
		"a wrong second":    {beginning(1), wrong, 3},
		"a record first":    {saved(1, 1, "x"), beginning(1), 1},
		"a record second":   {beginning(1), saved(1, 1, "x"), 3},
	} {
		d := newDisk(t, 8)
		laid(t, d, 0, x.first)
		laid(t, d, 4, x.second)
		t.Run(name, func(t *testing.T) {
			takes(t, d, x.reads, func() {
				if s, e := store.Open(d); e != api.ErrForm || s != nil {
					t.Errorf("Open: %v, %v", s, e)
				}
			})
			contains(t, d, [][]byte{x.first}, [][]byte{x.second})
		})
	}
}

func TestD1OpenAnswersTheFirstError(t *testing.T) {
	d := newDisk(t, 8)
	laid(t, d, 0, beginning(1))
	for n, want := range []api.Errno{api.ErrDown, api.ErrDown, api.ErrDown, api.ErrForm} {
		d.Arm(n, nil)
		if s, e := store.Open(d); e != want || s != nil {
			t.Errorf("a crash behind %d: %v, want %v", n, e, want)
		}
		if want == api.ErrDown {
			started(t, d)
		}
	}
	d = newDisk(t, 8)
	laid(t, d, 4, beginning(1))
	d.Arm(1, nil)
	if s, e := store.Open(d); e != api.ErrForm || s != nil || d.Down() {
		t.Errorf("Open: %v, down %v", e, d.Down())
	}
}

func TestD1OpenFindsACrash(t *testing.T) {
	d := newDisk(t, 12)
	long := textOf(1, 1200)
	put(t, formatted(t, d), "a", long)
	before := contents(t, d)
	const reads = 1 + 1 + 1 + 1 + 3 + 1
	for n := range reads {
		d.Arm(n, nil)
		if s, e := store.Open(d); e != api.ErrDown || s != nil {
			t.Errorf("a crash behind %d: %v, %v", n, s, e)
		}
		started(t, d)
	}
	d.Arm(reads, nil)
	keeps(t, opened(t, d), long)
	d.Arm(-1, nil)
	if !bytes.Equal(before, contents(t, d)) {
		t.Error("the disk was changed")
	}
}

// TestD1OpenKeepsTheGreaterCount lays both halves by hand; save tells into which half the next thing goes.
func TestD1OpenKeepsTheGreaterCount(t *testing.T) {
	type half [][]byte
	of := func(count uint64, thing string) half {
		return half{beginning(9), saved(10, count, thing)}
	}
	empty := half{beginning(9)}
	for name, x := range map[string]struct {
		first, second half
		want          string // no text: nothing is kept
		save          int
		count         uint64
	}{
		"neither":                {empty, empty, "", 0, 1},
		"the first alone":        {of(5, "f"), empty, "f", 1, 6},
		"the second alone":       {empty, of(5, "s"), "s", 0, 6},
		"the first one":          {of(6, "f"), of(5, "s"), "f", 1, 7},
		"the second one":         {of(5, "f"), of(6, "s"), "s", 0, 7},
		"the same":               {of(5, "f"), of(5, "s"), "f", 1, 6},
		"far apart":              {of(2, "f"), of(1<<40, "s"), "s", 0, 1<<40 + 1},
		"a low byte is less":     {of(256, "f"), of(255, "s"), "f", 1, 257},
		"a high byte is greater": {of(1<<56, "f"), of(2<<56, "s"), "s", 0, 2<<56 + 1},
		"count 0 alone":          {empty, of(0, "s"), "s", 0, 1},
		"count 0 first":          {of(0, "f"), empty, "f", 1, 1},
		"count 0 both":           {of(0, "f"), of(0, "s"), "f", 1, 1},
		"one less than the top":  {of(top-1, "f"), of(top-2, "s"), "f", 1, top},
		"too great first":        {of(top+1, "f"), of(5, "s"), "s", 0, 6},
		"too great second":       {of(5, "f"), of(top+1, "s"), "f", 1, 6},
		"too great both":         {of(top+1, "f"), of(math.MaxUint64, "s"), "", 0, 1},
		"the highest bit":        {of(1<<63, "f"), of(1, "s"), "s", 0, 2},
		"seven bytes":            {half{beginning(1), record(2, []byte("1234567"))}, of(1, "s"), "s", 0, 2},
		"seven bytes alone":      {empty, half{beginning(1), record(2, make([]byte, 7))}, "", 0, 1},
		"no bytes":               {half{beginning(1), record(2, nil)}, empty, "", 0, 1},
		"the first record counts": {
			half{beginning(1), saved(2, 3, "f"), saved(3, 99, "no")}, of(4, "s"), "s", 0, 5},
		"the first record is short": {
			half{beginning(1), record(2, []byte("no")), saved(3, 99, "no")}, of(4, "s"), "s", 0, 5},
		"the first record's count is none": {
			of(4, "f"), half{beginning(1), saved(2, top+1, "no"), saved(3, 99, "no")}, "f", 1, 5},
		"a record of another number": {
			half{beginning(1), saved(3, 99, "no")}, of(4, "s"), "s", 0, 5},
	} {
		t.Run(name, func(t *testing.T) {
			d := newDisk(t, 8)
			laid(t, d, 0, x.first...)
			laid(t, d, 4, x.second...)
			s := opened(t, d)
			contains(t, d, x.first, x.second)
			if x.want == "" {
				keepsNothing(t, s)
			} else {
				keeps(t, s, x.want)
			}
			put(t, s, "new")
			keeps(t, s, "new")
			b, _ := d.Read(x.save*4 + 1)
			if want := counted(x.count, "new"); !bytes.Equal(b[16:16+len(want)], want) {
				t.Errorf("half %d: % x, want % x", x.save, b[16:16+len(want)], want)
			}
			keeps(t, opened(t, d), "new")
		})
	}
}

// TestD1HalvesEnd lays records that would need one sector more than their half has.
func TestD1HalvesEnd(t *testing.T) {
	long := textOf(1, 600)
	d := newDisk(t, 5)
	laid(t, d, 0, beginning(1), saved(2, 1, "f"), beginning(1), saved(2, 2, long))
	takes(t, d, 4, func() { keeps(t, opened(t, d), "f") })
	d = newDisk(t, 5)
	laid(t, d, 0, beginning(1), saved(2, 1, "f"), beginning(1), saved(2, 2, "s"))
	takes(t, d, 4, func() { keeps(t, opened(t, d), "s") })
	d = newDisk(t, 6)
	p := saved(2, 9, textOf(2, 1200))
	laid(t, d, 0, beginning(1), p[:1024], beginning(1), saved(2, 1, "s"))
	takes(t, d, 5, func() { keeps(t, opened(t, d), "s") })
}

func TestD1AThingOfNoBytes(t *testing.T) {
	d := newDisk(t, 4)
	laid(t, d, 0, beginning(1), saved(2, 1, "f"), beginning(1), saved(2, 2, ""))
	keeps(t, opened(t, d), "")
	d = newDisk(t, 4)
	s := formatted(t, d)
	if e := s.Save(nil); e != api.OK {
		t.Errorf("Save: %v", e)
	}
	keeps(t, s, "")
	keeps(t, opened(t, d), "")
	put(t, s, "a", "")
	keeps(t, s, "")
	keeps(t, opened(t, d), "")
}

func TestD1SaveGoesFromHalfToHalf(t *testing.T) {
	for _, sectors := range []int{8, 9} {
		d := newDisk(t, sectors)
		s := formatted(t, d)
		put(t, s, "a")
		keeps(t, s, "a")
		contains(t, d, [][]byte{beginning(2), saved(3, 1, "a")}, [][]byte{beginning(1)})
		put(t, s, "b")
		keeps(t, s, "b")
		contains(t, d, [][]byte{beginning(2), saved(3, 1, "a")}, [][]byte{beginning(2), saved(3, 2, "b")})
		put(t, s, "c")
		keeps(t, s, "c")
		contains(t, d, [][]byte{beginning(4), saved(5, 3, "c")}, [][]byte{beginning(2), saved(3, 2, "b")})
		s = opened(t, d)
		keeps(t, s, "c")
		put(t, s, "d")
		contains(t, d, [][]byte{beginning(4), saved(5, 3, "c")}, [][]byte{beginning(4), saved(5, 4, "d")})
		keeps(t, s, "d")
		keeps(t, opened(t, d), "d")
	}
}

func TestD1SaveTakesOperations(t *testing.T) {
	for _, x := range [][2]int{{0, 4}, {1, 4}, {488, 4}, {489, 6}, {1000, 6}, {1001, 7}, {2536, 9}} {
		d := newDisk(t, 12)
		s := formatted(t, d)
		for i := range 3 {
			thing := textOf(i, x[0])
			takes(t, d, x[1], func() { put(t, s, thing) })
			takes(t, d, 0, func() { keeps(t, s, thing) })
			keeps(t, opened(t, d), thing)
		}
	}
}

// TestD1SaveInOrder looks at the disk when a crash that keeps all that waits comes behind n operations.
func TestD1SaveInOrder(t *testing.T) {
	long := textOf(1, 1200)
	p := saved(5, 3, long)
	none := make([]byte, api.Sector)
	old := [][]byte{beginning(2), saved(3, 1, "a")}
	for n, first := range [][][]byte{
		old,
		{beginning(4), saved(3, 1, "a")},
		{beginning(4), saved(3, 1, "a")},
		{beginning(4), saved(3, 1, "a"), p[512:1024]},
		{beginning(4), saved(3, 1, "a"), p[512:1024], p[1024:]},
		{beginning(4), saved(3, 1, "a"), p[512:1024], p[1024:]},
		{beginning(4), p},
	} {
		d := newDisk(t, 10)
		s := formatted(t, d)
		put(t, s, "a", "b")
		d.Arm(n, bitsOf(-1, 8))
		if e := s.Save([]byte(long)); e != api.ErrDown {
			t.Errorf("a crash behind %d: %v", n, e)
		}
		started(t, d)
		contains(t, d, append(first, none), [][]byte{beginning(2), saved(3, 2, "b")})
	}
}

func TestD1SaveCommitsItsReset(t *testing.T) {
	d := newDisk(t, 6)
	s := formatted(t, d)
	put(t, s, "a", "b")
	d.Arm(3, nil) // behind Reset, Commit, Append
	if e := s.Save([]byte("c")); e != api.ErrDown {
		t.Errorf("Save: %v", e)
	}
	started(t, d)
	contains(t, d, [][]byte{beginning(4), saved(3, 1, "a")}, [][]byte{beginning(2), saved(3, 2, "b")})
	s = opened(t, d)
	keeps(t, s, "b")
	put(t, s, "d")
	contains(t, d, [][]byte{beginning(5), saved(6, 3, "d")}, [][]byte{beginning(2), saved(3, 2, "b")})
}

func TestD1SaveCommitsItsThing(t *testing.T) {
	d := newDisk(t, 6)
	s := formatted(t, d)
	for _, x := range []string{"a", "b", textOf(1, 900), ""} {
		put(t, s, x)
		crashed(t, d)
		s = opened(t, d)
		keeps(t, s, x)
	}
}

func TestD1Room(t *testing.T) {
	for sectors, want := range map[int]int{
		4: 488, 5: 488, 6: 1000, 7: 1000, 8: 3*512 - 24, 9: 3*512 - 24, 4095: 2046*512 - 24, api.MaxSector: 2047*512 - 24,
	} {
		d := newDisk(t, sectors)
		s := formatted(t, d)
		for i := range 3 {
			if s.Room() != want {
				t.Fatalf("%d sectors: Room %d, want %d", sectors, s.Room(), want)
			}
			thing := textOf(i, want)
			takes(t, d, 0, func() {
				if e := s.Save([]byte(thing + "x")); e != api.ErrFull {
					t.Errorf("%d sectors, Save of Room and one: %v", sectors, e)
				}
			})
			put(t, s, thing)
			keeps(t, s, thing)
			s = opened(t, d)
			keeps(t, s, thing)
		}
	}
}

func TestD1SaveWithoutRoomDoesNothing(t *testing.T) {
	d := newDisk(t, 4)
	s := formatted(t, d)
	full := func() {
		t.Helper()
		for _, n := range []int{489, 490, 4096, 100000} {
			takes(t, d, 0, func() {
				if e := s.Save(make([]byte, n)); e != api.ErrFull {
					t.Errorf("Save of %d bytes: %v", n, e)
				}
			})
		}
	}
	full()
	keepsNothing(t, s)
	put(t, s, "a")
	full()
	keeps(t, s, "a")
	contains(t, d, [][]byte{beginning(2), saved(3, 1, "a")}, [][]byte{beginning(1)})
	put(t, s, "b")
	keeps(t, s, "b")
}

func TestD1CountsEnd(t *testing.T) {
	d := newDisk(t, 4)
	laid(t, d, 0, beginning(1), saved(2, top-1, "a"), beginning(1))
	s := opened(t, d)
	put(t, s, "b")
	keeps(t, s, "b")
	takes(t, d, 0, func() {
		if a, b := s.Save([]byte("c")), s.Save(nil); a != api.ErrFull || b != api.ErrFull {
			t.Errorf("Save: %v, %v", a, b)
		}
	})
	keeps(t, s, "b")
	contains(t, d, [][]byte{beginning(1), saved(2, top-1, "a")}, [][]byte{beginning(2), saved(3, top, "b")})
	s = opened(t, d)
	keeps(t, s, "b")
	if e := s.Save([]byte("c")); e != api.ErrFull {
		t.Errorf("Save behind Open: %v", e)
	}
	keeps(t, s, "b")
}

// TestD1NumbersEnd has halves whose journals may have no number more: that is none of Save's own ErrFull.
func TestD1NumbersEnd(t *testing.T) {
	for number, ops := range map[uint64]int{top: 0, top - 1: 2} {
		d := newDisk(t, 4)
		laid(t, d, 0, beginning(number), make([]byte, 512), beginning(1), saved(2, 7, "s"))
		s := opened(t, d)
		takes(t, d, ops, func() {
			if e := s.Save([]byte("new")); e != api.ErrDown {
				t.Errorf("a beginning of %d: %v", number, e)
			}
		})
		useless(t, d, s)
		contains(t, d, [][]byte{beginning(top)}, [][]byte{beginning(1), saved(2, 7, "s")})
		keeps(t, opened(t, d), "s")
	}
	d := newDisk(t, 4)
	laid(t, d, 0, beginning(top-2), make([]byte, 512), beginning(1), saved(2, 7, "s"))
	s := opened(t, d)
	put(t, s, "new")
	contains(t, d, [][]byte{beginning(top - 1), saved(top, 8, "new")}, [][]byte{beginning(1), saved(2, 7, "s")})
}

// useless looks at a store that has met an error.
func useless(t *testing.T, d *disk.Disk, s *store.Store) {
	t.Helper()
	takes(t, d, 0, func() {
		if b, e := s.Load(); e != api.ErrDown || b != nil {
			t.Errorf("Load: %v, %q", e, b)
		}
		for _, n := range []int{0, 1, 100000} {
			if e := s.Save(make([]byte, n)); e != api.ErrDown {
				t.Errorf("Save of %d bytes: %v", n, e)
			}
		}
	})
	if want := (d.Sectors()/2-1)*512 - 24; s.Room() != want {
		t.Errorf("Room %d, want %d", s.Room(), want)
	}
}

func TestD1BehindAnErrorItIsOfNoUse(t *testing.T) {
	for _, before := range [][]string{nil, {"a"}, {"a", "b"}} {
		for n := range 4 {
			d := newDisk(t, 6)
			s := formatted(t, d)
			put(t, s, before...)
			d.Arm(n, nil)
			if e := s.Save([]byte("new")); e != api.ErrDown {
				t.Errorf("a crash behind %d: %v", n, e)
			}
			useless(t, d, s)
			started(t, d)
			useless(t, d, s)
			s = opened(t, d)
			if before == nil {
				keepsNothing(t, s)
			} else {
				keeps(t, s, before[len(before)-1])
			}
			put(t, s, "again")
			keeps(t, s, "again")
		}
	}
}

func TestD1ADiskThatIsDown(t *testing.T) {
	d := newDisk(t, 6)
	s := formatted(t, d)
	put(t, s, "a")
	d.Crash(nil)
	keeps(t, s, "a")
	if e := s.Save(make([]byte, 1001)); e != api.ErrFull {
		t.Errorf("Save of too much: %v", e)
	}
	keeps(t, s, "a")
	if e := s.Save([]byte("b")); e != api.ErrDown {
		t.Errorf("Save: %v", e)
	}
	useless(t, d, s)
}

func TestD1ExampleOfTheChapter(t *testing.T) {
	for n := range 4 {
		for mask := range 2 {
			d := newDisk(t, 4)
			s := formatted(t, d)
			put(t, s, "x")
			d.Arm(n, bitsOf(mask, 1))
			if e := s.Save([]byte("y")); e != api.ErrDown {
				t.Errorf("Save: %v", e)
			}
			started(t, d)
			want := "x"
			if n == 3 && mask == 1 {
				want = "y"
			}
			keeps(t, opened(t, d), want)
		}
	}
}

func TestD1BytesAreNotShared(t *testing.T) {
	d := newDisk(t, 8)
	s := formatted(t, d)
	text := textOf(1, 900)
	whole := []byte("ahead" + text + "behind")
	if e := s.Save(whole[5:905]); e != api.OK || string(whole) != "ahead"+text+"behind" {
		t.Fatalf("Save: %v, or bytes were changed", e)
	}
	clear(whole)
	for range 2 {
		keeps(t, s, text)
		b, _ := s.Load()
		clear(b)
		_ = append(b, "more"...)
		keeps(t, s, text)
		s = opened(t, d)
	}
}

func TestD1StoresAreApart(t *testing.T) {
	c, d := newDisk(t, 4), newDisk(t, 4)
	r, s := formatted(t, c), formatted(t, d)
	put(t, r, "r")
	keepsNothing(t, s)
	put(t, s, "s")
	c.Crash(nil)
	if e := r.Save(nil); e != api.ErrDown {
		t.Errorf("Save: %v", e)
	}
	put(t, s, "more")
	keeps(t, s, "more")
}

func TestD1TheSameCallsHaveTheSameAnswers(t *testing.T) {
	run := func() []byte {
		d := newDisk(t, 10)
		s := formatted(t, d)
		put(t, s, textOf(1, 700), "", textOf(2, 1200))
		crashed(t, d)
		put(t, opened(t, d), "end")
		return contents(t, d)
	}
	if !bytes.Equal(run(), run()) {
		t.Error("two runs differ")
	}
}

// history saves things up to an error; it answers how many were saved with OK.
func history(s *store.Store, things []string) int {
	for i, x := range things {
		if s.Save([]byte(x)) != api.OK {
			return i
		}
	}
	return len(things)
}

// among tells whether a store keeps the thing at sure (that many were saved with OK), or the one begun behind it; it answers which.
func among(t *testing.T, s *store.Store, things []string, sure int) int {
	t.Helper()
	b, e := s.Load()
	if sure == 0 && e == api.ErrNone {
		return 0
	}
	for _, n := range []int{sure, sure + 1} {
		if e == api.OK && n >= 1 && n <= len(things) && string(b) == things[n-1] {
			return n
		}
	}
	t.Fatalf("Load: %v, %.20q behind %d that were saved", e, b, sure)
	return 0
}

// TestD1BehindAnyCrash lets the disk crash twice, behind any operations, keeping any of the writes that wait.
func TestD1BehindAnyCrash(t *testing.T) {
	things := []string{"a", textOf(1, 1200), "", textOf(2, 1500), "e", textOf(3, 600), "g"}
	for n := range 36 {
		for mask := range 1 << 3 {
			for again := range 12 {
				d := newDisk(t, 8)
				s := formatted(t, d)
				d.Arm(n, bitsOf(mask, 3))
				sure := history(s, things)
				crashed(t, d)
				s = opened(t, d)
				first := among(t, s, things, sure)
				d.Arm(again, bitsOf(mask, 3))
				sure = first + history(s, things[first:])
				crashed(t, d)
				second := among(t, opened(t, d), things, sure)
				crashed(t, d)
				if third := among(t, opened(t, d), things, second); third != second {
					t.Fatalf("%d, %d, %d: %d, and then %d", n, mask, again, second, third)
				}
			}
		}
	}
}

// TestD1WhatWasLostDoesNotComeBack loses a thing of several sectors, and saves others in its place.
func TestD1WhatWasLostDoesNotComeBack(t *testing.T) {
	for n := range 7 {
		for mask := range 1 << 3 {
			for later := range 7 {
				d := newDisk(t, 8)
				s := formatted(t, d)
				put(t, s, "a", "b")
				d.Arm(n, bitsOf(mask, 3))
				s.Save([]byte(textOf(1, 1200)))
				crashed(t, d)
				s = opened(t, d)
				put(t, s, "c")
				d.Arm(later, bitsOf(mask, 3))
				e := s.Save([]byte("d"))
				crashed(t, d)
				b, _ := opened(t, d).Load()
				if got := string(b); got != "d" && (e == api.OK || got != "c") {
					t.Fatalf("%d, %d, %d: %v, %.20q", n, mask, later, e, got)
				}
			}
		}
	}
}
