package reg

import (
	"math/bits"

	"swingbridge/span"
)

// far is how many bytes a pointer may be moved by at most, and how many it may be away from its beginning then.
const far = 1 << 20

// Move is a pointer that is moved up or down by a number of a span; false, if it may not be (L3).
func (r Reg) Move(by span.Span, down bool) (Reg, bool) {
	lo, hi, ok := shifts(by, down)
	if !ok || !r.isPointer() {
		return Reg{}, false
	}
	r.Lo += lo
	r.Hi += hi
	if !isNear(int64(r.Lo)) || !isNear(int64(r.Hi)) {
		return Reg{}, false
	}
	return r, true
}

// Within tells where size bytes, off behind a pointer, may begin and end; false, if that may be outside of least to end (L3).
func (r Reg) Within(off, size, least, end int) (int, int, bool) {
	from, told := sum(r.Lo, off)
	to, toldToo := sum(r.Hi, off, size)
	if !r.isPointer() || !told || !toldToo || from < least || to > end {
		return 0, 0, false
	}
	return from, to, true
}

func (r Reg) isPointer() bool { return r.Kind == Ctx || r.Kind == Stack || r.Kind == Value }

func isNear(n int64) bool { return -far <= n && n <= far }

// shifts are how far up the two ends of a pointer go; false, if none may go so far. Down the document lets it go by one number alone.
func shifts(by span.Span, down bool) (int, int, bool) {
	one := int64(by.Lo)
	switch {
	case by.Lo == by.Hi && isNear(one):
		if down {
			one = -one
		}
		return int(one), int(one), true
	case !down && by.Right() && by.Hi <= far:
		return int(by.Lo), int(by.Hi), true
	}
	return 0, 0, false
}

// sum has twice the bits, lest a great offset wrap round to a place that seems to be within; false, if an int cannot hold it.
func sum(terms ...int) (int, bool) {
	var low, high uint64
	for _, n := range terms {
		var carry uint64
		low, carry = bits.Add64(low, uint64(n), 0)
		high += uint64(n>>63) + carry
	}
	return int(low), high == uint64(int64(low)>>63)
}
