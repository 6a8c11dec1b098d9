package disk_test

import (
	"bytes"
	"math"
	"testing"

	"swingbridge/api"
	"swingbridge/disk"
)

// filled is a sector whose first and last bytes differ from the rest, so that a sector that is not whole shows.
func filled(c byte) []byte {
	b := bytes.Repeat([]byte{c}, api.Sector)
	b[0], b[api.Sector-1] = ^c, c^0x55
	return b
}

func made(t *testing.T, sectors int) *disk.Disk {
	t.Helper()
	d, e := disk.New(sectors)
	if e != api.OK || d == nil {
		t.Fatalf("New(%d): %v", sectors, e)
	}
	return d
}

func wrote(t *testing.T, d *disk.Disk, at int, c byte) {
	t.Helper()
	if e := d.Write(at, filled(c)); e != api.OK {
		t.Fatalf("Write(%d): %v", at, e)
	}
}

func barriered(t *testing.T, d *disk.Disk) {
	t.Helper()
	if e := d.Barrier(); e != api.OK {
		t.Fatalf("Barrier: %v", e)
	}
}

func started(t *testing.T, d *disk.Disk) {
	t.Helper()
	if e := d.Start(); e != api.OK || d.Down() {
		t.Fatalf("Start: %v, down %v", e, d.Down())
	}
}

func holds(t *testing.T, d *disk.Disk, at int, want []byte) {
	t.Helper()
	if b, e := d.Read(at); e != api.OK || !bytes.Equal(b, want) {
		t.Errorf("Read(%d): %v, % x.., want % x..", at, e, b[:min(2, len(b))], want[:2])
	}
}

func counts(t *testing.T, d *disk.Disk, want int) {
	t.Helper()
	if n := d.Ops(); n != want {
		t.Errorf("Ops: %d, want %d", n, want)
	}
}

func zeros() []byte { return make([]byte, api.Sector) }

// operations are the three, each with arguments that are right.
func operations() map[string]func(d *disk.Disk) api.Errno {
	return map[string]func(d *disk.Disk) api.Errno{
		"Read": func(d *disk.Disk) api.Errno {
			b, e := d.Read(0)
			if e != api.OK && b != nil {
				return -1
			}
			return e
		},
		"Write":   func(d *disk.Disk) api.Errno { return d.Write(0, filled(99)) },
		"Barrier": func(d *disk.Disk) api.Errno { return d.Barrier() },
	}
}

// wrongCalls makes calls with arguments that may not be, on a disk of three sectors.
func wrongCalls(t *testing.T, d *disk.Disk) {
	t.Helper()
	for _, at := range []int{-1, 3, 4, api.MaxSector, math.MinInt, math.MaxInt} {
		if b, e := d.Read(at); e != api.ErrArg || b != nil {
			t.Errorf("Read(%d): %v, %d bytes", at, e, len(b))
		}
		if e := d.Write(at, filled(1)); e != api.ErrArg {
			t.Errorf("Write(%d): %v", at, e)
		}
	}
	for _, size := range []int{0, 1, 511, 513, 1024} {
		if e := d.Write(0, make([]byte, size)); e != api.ErrArg {
			t.Errorf("Write of %d bytes: %v", size, e)
		}
	}
	if e := d.Write(0, nil); e != api.ErrArg {
		t.Errorf("Write of nil: %v", e)
	}
	if e := d.Write(3, nil); e != api.ErrArg {
		t.Errorf("Write of nil to no sector: %v", e)
	}
}

func TestA1New(t *testing.T) {
	for _, n := range []int{math.MinInt, -1, 0, 4097, math.MaxInt} {
		if d, e := disk.New(n); e != api.ErrArg || d != nil {
			t.Errorf("New(%d): %v, %v", n, d, e)
		}
	}
	for _, n := range []int{1, 2, 4095, 4096} {
		d := made(t, n)
		if d.Sectors() != n || d.Down() || d.Ops() != 0 {
			t.Errorf("New(%d): %d sectors, down %v, %d operations", n, d.Sectors(), d.Down(), d.Ops())
		}
		holds(t, d, 0, zeros())
		holds(t, d, n-1, zeros())
		if _, e := d.Read(n); e != api.ErrArg {
			t.Errorf("Read(%d) of %d: %v", n, n, e)
		}
	}
}

func TestA1ReadTellsTheLastWrite(t *testing.T) {
	d := made(t, 3)
	wrote(t, d, 0, 1)
	holds(t, d, 0, filled(1))
	wrote(t, d, 2, 2)
	wrote(t, d, 0, 3)
	wrote(t, d, 2, 4)
	holds(t, d, 0, filled(3))
	holds(t, d, 1, zeros())
	holds(t, d, 2, filled(4))
	barriered(t, d)
	holds(t, d, 0, filled(3))
	holds(t, d, 1, zeros())
	holds(t, d, 2, filled(4))
	wrote(t, d, 0, 5)
	holds(t, d, 0, filled(5))
}

func TestA1BarrierDoesAllInOrder(t *testing.T) {
	d := made(t, 2)
	barriered(t, d)
	wrote(t, d, 0, 1)
	wrote(t, d, 1, 2)
	wrote(t, d, 0, 3)
	barriered(t, d)
	d.Crash(nil)
	started(t, d)
	holds(t, d, 0, filled(3))
	holds(t, d, 1, filled(2))
}

func TestA1BarrierLeavesNoneWaiting(t *testing.T) {
	d := made(t, 1)
	wrote(t, d, 0, 1)
	barriered(t, d)
	wrote(t, d, 0, 2)
	d.Crash([]bool{false, true})
	started(t, d)
	holds(t, d, 0, filled(1))
}

func TestA1WrongArguments(t *testing.T) {
	d := made(t, 3)
	wrote(t, d, 0, 7)
	wrongCalls(t, d)
	counts(t, d, 1)
	d.Crash([]bool{true, true, true})
	wrongCalls(t, d)
	started(t, d)
	holds(t, d, 0, filled(7))
	holds(t, d, 1, zeros())
	holds(t, d, 2, zeros())
	counts(t, d, 4)
}

func TestA1OperationsAreCounted(t *testing.T) {
	d := made(t, 1)
	for name, do := range operations() {
		before := d.Ops()
		if e := do(d); e != api.OK {
			t.Errorf("%s: %v", name, e)
		}
		counts(t, d, before+1)
	}
	d.Sectors()
	d.Down()
	d.Arm(5, nil)
	d.Crash(nil)
	counts(t, d, 3)
	for name, do := range operations() {
		if e := do(d); e != api.ErrDown {
			t.Errorf("%s of a disk that is down: %v", name, e)
		}
	}
	counts(t, d, 3)
	started(t, d)
	counts(t, d, 3)
}

func TestA1BytesAreNotShared(t *testing.T) {
	d := made(t, 2)
	b := filled(1)
	if e := d.Write(0, b); e != api.OK || !bytes.Equal(b, filled(1)) {
		t.Fatalf("Write: %v", e)
	}
	clear(b)
	holds(t, d, 0, filled(1))
	waiting, _ := d.Read(0)
	clear(waiting)
	holds(t, d, 0, filled(1))
	barriered(t, d)
	done, _ := d.Read(0)
	clear(done)
	holds(t, d, 0, filled(1))
	fresh, _ := d.Read(1)
	fresh[0] = 1
	holds(t, d, 1, zeros())
}

func TestA1DisksAreApart(t *testing.T) {
	c, d := made(t, 1), made(t, 1)
	wrote(t, c, 0, 1)
	barriered(t, c)
	c.Arm(0, nil)
	holds(t, d, 0, zeros())
	c.Crash(nil)
	holds(t, d, 0, zeros())
	if d.Down() || d.Ops() != 2 {
		t.Errorf("down %v, %d operations", d.Down(), d.Ops())
	}
}

// replayed is what two sectors hold when of some writes (that have the values from 1 on) those that keep names were done.
func replayed(places []int, keep []bool) [2][]byte {
	out := [2][]byte{zeros(), zeros()}
	for i, at := range places {
		if i < len(keep) && keep[i] {
			out[at] = filled(byte(i + 1))
		}
	}
	return out
}

func TestA2CrashKeepsWhatItIsTold(t *testing.T) {
	places := []int{0, 1, 0, 0, 1}
	for size := range len(places) + 3 {
		for mask := range 1 << size {
			keep := make([]bool, size)
			for i := range keep {
				keep[i] = mask>>i&1 == 1
			}
			d := made(t, 2)
			for i, at := range places {
				wrote(t, d, at, byte(i+1))
			}
			d.Crash(keep)
			if !d.Down() {
				t.Fatalf("%v: not down", keep)
			}
			started(t, d)
			for at, want := range replayed(places, keep) {
				holds(t, d, at, want)
			}
		}
	}
}

func TestA2ExampleOfTheChapter(t *testing.T) {
	d := made(t, 1)
	wrote(t, d, 0, 1)
	wrote(t, d, 0, 2)
	d.Crash([]bool{true})
	started(t, d)
	holds(t, d, 0, filled(1))
}

func TestA2CrashLeavesNoneWaiting(t *testing.T) {
	d := made(t, 2)
	wrote(t, d, 0, 1)
	wrote(t, d, 1, 2)
	d.Crash(nil)
	d.Crash([]bool{true, true})
	if !d.Down() {
		t.Error("not down behind two crashes")
	}
	started(t, d)
	barriered(t, d)
	holds(t, d, 0, zeros())
	holds(t, d, 1, zeros())
	wrote(t, d, 1, 3)
	d.Crash([]bool{true})
	started(t, d)
	holds(t, d, 0, zeros())
	holds(t, d, 1, filled(3))
}

func TestA2WhatWasBarrieredIsNeverLost(t *testing.T) {
	d := made(t, 2)
	wrote(t, d, 0, 1)
	wrote(t, d, 1, 2)
	barriered(t, d)
	wrote(t, d, 0, 3)
	wrote(t, d, 1, 4)
	d.Crash([]bool{false, true})
	d.Crash(nil)
	started(t, d)
	holds(t, d, 0, filled(1))
	holds(t, d, 1, filled(4))
}

func TestA2DownAndStart(t *testing.T) {
	d := made(t, 1)
	if e := d.Start(); e != api.ErrState || d.Down() {
		t.Errorf("Start of a new disk: %v, down %v", e, d.Down())
	}
	wrote(t, d, 0, 1)
	barriered(t, d)
	d.Crash(nil)
	for name, do := range operations() {
		if e := do(d); e != api.ErrDown || !d.Down() {
			t.Errorf("%s: %v, down %v", name, e, d.Down())
		}
	}
	if d.Sectors() != 1 {
		t.Errorf("%d sectors", d.Sectors())
	}
	started(t, d)
	if e := d.Start(); e != api.ErrState || d.Down() {
		t.Errorf("a second Start: %v, down %v", e, d.Down())
	}
	barriered(t, d)
	holds(t, d, 0, filled(1))
}

func TestA2ArmedCrashComesBehindNOperations(t *testing.T) {
	for n := range 4 {
		for name, do := range operations() {
			d := made(t, 2)
			d.Arm(n, nil)
			for range n {
				holds(t, d, 1, zeros())
			}
			if d.Down() {
				t.Fatalf("Arm(%d): down ahead of its time", n)
			}
			if e := do(d); e != api.ErrDown || !d.Down() {
				t.Errorf("Arm(%d), %s: %v, down %v", n, name, e, d.Down())
			}
			counts(t, d, n)
			started(t, d)
			for name, do := range operations() {
				if e := do(d); e != api.OK {
					t.Errorf("%s behind the crash: %v", name, e)
				}
			}
		}
	}
}

func TestA2AllOperationsBringTheArmedCrashNearer(t *testing.T) {
	for name, do := range operations() {
		d := made(t, 1)
		d.Arm(2, nil)
		if a, b, c := do(d), do(d), do(d); a != api.OK || b != api.OK || c != api.ErrDown {
			t.Errorf("%s: %v %v %v", name, a, b, c)
		}
	}
}

func TestA2ArmedCrashKeepsWhatItIsTold(t *testing.T) {
	d := made(t, 3)
	d.Arm(3, []bool{true, false, true, true})
	wrote(t, d, 0, 1)
	wrote(t, d, 1, 2)
	wrote(t, d, 2, 3)
	if e := d.Write(0, filled(4)); e != api.ErrDown {
		t.Errorf("Write: %v", e)
	}
	started(t, d)
	holds(t, d, 0, filled(1))
	holds(t, d, 1, zeros())
	holds(t, d, 2, filled(3))
}

func TestA2BarrierThatFindsACrashIsNone(t *testing.T) {
	d := made(t, 2)
	wrote(t, d, 0, 1)
	wrote(t, d, 1, 2)
	d.Arm(0, []bool{false, true})
	if e := d.Barrier(); e != api.ErrDown {
		t.Errorf("Barrier: %v", e)
	}
	started(t, d)
	holds(t, d, 0, zeros())
	holds(t, d, 1, filled(2))
}

func TestA2WrongCallsDoNotFindTheArmedCrash(t *testing.T) {
	d := made(t, 3)
	d.Arm(0, nil)
	wrongCalls(t, d)
	if d.Down() || d.Start() != api.ErrState {
		t.Error("a wrong call found the crash")
	}
	if e := d.Barrier(); e != api.ErrDown {
		t.Errorf("Barrier: %v", e)
	}
	started(t, d)
	d.Arm(1, nil)
	wrongCalls(t, d)
	barriered(t, d)
	if e := d.Barrier(); e != api.ErrDown {
		t.Errorf("a second Barrier: %v", e)
	}
}

func TestA2KeepIsNotKept(t *testing.T) {
	d := made(t, 1)
	keep := []bool{true}
	wrote(t, d, 0, 1)
	d.Arm(0, keep)
	keep[0] = false
	if e := d.Barrier(); e != api.ErrDown || keep[0] {
		t.Errorf("Barrier: %v, %v", e, keep)
	}
	started(t, d)
	holds(t, d, 0, filled(1))
}

func TestA2TheLastArmCounts(t *testing.T) {
	d := made(t, 1)
	d.Arm(0, []bool{true})
	d.Arm(2, nil)
	wrote(t, d, 0, 1)
	holds(t, d, 0, filled(1))
	if e := d.Barrier(); e != api.ErrDown {
		t.Errorf("Barrier: %v", e)
	}
	started(t, d)
	holds(t, d, 0, zeros())
	d.Arm(5, nil)
	d.Arm(0, nil)
	if e := d.Barrier(); e != api.ErrDown {
		t.Errorf("Barrier: %v", e)
	}
}

func TestA2NothingIsArmed(t *testing.T) {
	for _, n := range []int{-1, -2, math.MinInt} {
		d := made(t, 1)
		d.Arm(0, nil)
		d.Arm(n, []bool{true})
		for range 4 {
			barriered(t, d)
		}
	}
	d := made(t, 1)
	d.Arm(math.MaxInt, nil)
	for range 4 {
		barriered(t, d)
	}
}

func TestA2CrashDisarms(t *testing.T) {
	d := made(t, 1)
	d.Arm(0, nil)
	d.Crash(nil)
	started(t, d)
	barriered(t, d)
	d.Crash(nil)
	d.Arm(0, nil)
	d.Crash(nil)
	started(t, d)
	barriered(t, d)
}

func TestA2ArmedWhileDown(t *testing.T) {
	d := made(t, 1)
	d.Crash(nil)
	d.Arm(1, []bool{true})
	for range 3 {
		if e := d.Barrier(); e != api.ErrDown {
			t.Errorf("Barrier of a disk that is down: %v", e)
		}
	}
	started(t, d)
	wrote(t, d, 0, 1)
	if e := d.Barrier(); e != api.ErrDown {
		t.Errorf("Barrier: %v", e)
	}
	started(t, d)
	holds(t, d, 0, filled(1))
	counts(t, d, 2)
}

func TestA2ADiskThatIsDownDoesNotFindTheArmedCrash(t *testing.T) {
	d := made(t, 1)
	d.Crash(nil)
	d.Arm(0, []bool{true})
	if e := d.Barrier(); e != api.ErrDown {
		t.Errorf("Barrier of a disk that is down: %v", e)
	}
	started(t, d)
	if e := d.Barrier(); e != api.ErrDown || !d.Down() {
		t.Errorf("Barrier: %v, down %v", e, d.Down())
	}
	started(t, d)
	barriered(t, d)
}
