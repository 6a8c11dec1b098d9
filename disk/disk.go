// Package disk is layer 1: see shared/doc/01-disk.md.
package disk

import (
	"slices"

	"swingbridge/api"
)

// write is one that waits. Its data is never written to, so that a sector may take it over as it is.
type write struct {
	at   int
	data []byte
}

// crash is one that is armed.
type crash struct {
	after int // so many operations are still to be done
	keep  []bool
}

// Disk is sectors, and writes that wait.
type Disk struct {
	sectors [][]byte
	waiting []write
	armed   *crash // nil: nothing is armed
	down    bool
	ops     int
}

// New is a disk that is up, whose sectors are all 0 (A1).
func New(sectors int) (*Disk, api.Errno) {
	if sectors < 1 || sectors > api.MaxSector {
		return nil, api.ErrArg
	}
	d := &Disk{sectors: make([][]byte, sectors)}
	for at := range d.sectors {
		d.sectors[at] = make([]byte, api.Sector)
	}
	return d, api.OK
}

// Sectors tells how many there are (A1).
func (d *Disk) Sectors() int { return len(d.sectors) }

// Read tells a sector as it was written last, waiting or not (A1).
func (d *Disk) Read(at int) ([]byte, api.Errno) {
	if !d.has(at) {
		return nil, api.ErrArg
	}
	if e := d.operate(); e != api.OK {
		return nil, e
	}
	return slices.Clone(d.last(at)), api.OK
}

// Write lets one more write wait (A1).
func (d *Disk) Write(at int, b []byte) api.Errno {
	if !d.has(at) || len(b) != api.Sector {
		return api.ErrArg
	}
	if e := d.operate(); e != api.OK {
		return e
	}
	d.waiting = append(d.waiting, write{at, slices.Clone(b)})
	return api.OK
}

// Barrier does all writes that wait (A1).
func (d *Disk) Barrier() api.Errno {
	if e := d.operate(); e != api.OK {
		return e
	}
	d.settle(func(int) bool { return true })
	return api.OK
}

// Crash does those of the waiting writes that keep names, and loses the others (A2).
func (d *Disk) Crash(keep []bool) {
	d.settle(func(place int) bool { return place < len(keep) && keep[place] })
	d.down = true
	d.armed = nil
}

// Arm lets the operation behind n more find a crash; with n below 0 none does (A2).
func (d *Disk) Arm(n int, keep []bool) {
	d.armed = nil
	if n >= 0 {
		d.armed = &crash{after: n, keep: slices.Clone(keep)}
	}
}

// Start brings a disk up that is down (A2).
func (d *Disk) Start() api.Errno {
	if !d.down {
		return api.ErrState
	}
	d.down = false
	return api.OK
}

// Down tells whether it has crashed and was not started again (A2).
func (d *Disk) Down() bool { return d.down }

// Ops tells how many operations were done, ever (A2).
func (d *Disk) Ops() int { return d.ops }

func (d *Disk) has(at int) bool { return at >= 0 && at < len(d.sectors) }

// operate counts an operation that may be done. Its arguments are looked at ahead: a wrong call must not find the armed crash.
func (d *Disk) operate() api.Errno {
	if !d.down && d.armed != nil && d.armed.after == 0 {
		d.Crash(d.armed.keep)
	}
	if d.down {
		return api.ErrDown
	}
	d.ops++
	if d.armed != nil {
		d.armed.after--
	}
	return api.OK
}

// last looks backward, as of several writes to a sector the latest one tells what it holds.
func (d *Disk) last(at int) []byte {
	for _, w := range slices.Backward(d.waiting) {
		if w.at == at {
			return w.data
		}
	}
	return d.sectors[at]
}

// settle leaves no write waiting: in order, those are done whose places are kept.
func (d *Disk) settle(kept func(place int) bool) {
	for place, w := range d.waiting {
		if kept(place) {
			d.sectors[w.at] = w.data
		}
	}
	d.waiting = nil
}
