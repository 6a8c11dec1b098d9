package journal

import (
	"iter"

	"swingbridge/api"
	"swingbridge/crc"
)

// Where the parts of a picture's head end; the record's own bytes stand behind it.
const (
	numberEnd = 8
	lengthEnd = 12
	headEnd   = 16
)

// maxNumber is the greatest number that a record or a beginning has.
const maxNumber uint64 = 1 << 62

// noBytes is the length that a beginning tells: no record is so long.
const noBytes uint64 = 1<<32 - 1

// picture is what stands on the disk for a record, or (with noBytes as its length) for a beginning.
func picture(n, size uint64, b []byte) []byte {
	p := make([]byte, sectorsOf(len(b))*api.Sector)
	put(p[:numberEnd], n)
	put(p[numberEnd:lengthEnd], size)
	put(p[lengthEnd:headEnd], sum(p, b))
	copy(p[headEnd:], b)
	return p
}

// isBeginning tells whether a sector is one.
func isBeginning(sector []byte) bool {
	n := number(sector)
	return n >= 1 && n <= maxNumber && length(sector) == noBytes && told(sector) == sum(sector, nil)
}

// cut is bytes as sectors of a disk, from the one at on.
func cut(at int, b []byte) iter.Seq2[int, []byte] {
	return func(yield func(int, []byte) bool) {
		for i := 0; i < len(b); i += api.Sector {
			if !yield(at+i/api.Sector, b[i:i+api.Sector]) {
				return
			}
		}
	}
}

// sectorsOf tells how many sectors a record of so many bytes takes.
func sectorsOf(size int) int { return (headEnd + size + api.Sector - 1) / api.Sector }

// number is the one that a picture tells.
func number(p []byte) uint64 { return get(p[:numberEnd]) }

// length is the one that a picture tells: it may be any.
func length(p []byte) uint64 { return get(p[numberEnd:lengthEnd]) }

// told is the CRC that a picture tells, be it right or not.
func told(p []byte) uint64 { return get(p[lengthEnd:headEnd]) }

// sum is the CRC that a picture must tell, if its record has the bytes b.
func sum(p, b []byte) uint64 { return uint64(crc.More(crc.Sum(p[:lengthEnd]), b)) }

// put fills bytes with a number, the lowest byte first.
func put(b []byte, n uint64) {
	for i := range b {
		b[i] = byte(n >> (8 * i))
	}
}

// get is the number that put has told.
func get(b []byte) uint64 {
	var n uint64
	for i, x := range b {
		n |= uint64(x) << (8 * i)
	}
	return n
}
