package span

import (
	"math/bits"

	"swingbridge/api"
)

// made has all that an operation on words of so many bits makes of numbers of a and b; it may have more above those bits.
func made(op uint8, size uint64, a, b Span) Span {
	switch op {
	case api.Add:
		return sum(a, b)
	case api.Sub:
		return difference(a, b)
	case api.Mul:
		return product(a, b)
	case api.Div:
		return quotient(a, b)
	case api.Mod:
		return remainder(a, b)
	case api.And:
		return Span{0, min(a.Hi, b.Hi)}
	case api.Or:
		return Span{max(a.Lo, b.Lo), ones(max(a.Hi, b.Hi))}
	case api.Xor:
		return Span{0, ones(max(a.Hi, b.Hi))}
	case api.Lsh:
		return shiftedUp(size, a, b)
	case api.Arsh:
		if a.Hi>>(size-1) != 0 {
			return All()
		}
		fallthrough // without a sign it is as Rsh
	case api.Rsh:
		return shiftedDown(size, a, b)
	case api.Mov:
		return b
	}
	return All()
}

func sum(a, b Span) Span {
	hi, lost := bits.Add64(a.Hi, b.Hi, 0)
	if lost != 0 {
		return All()
	}
	return Span{a.Lo + b.Lo, hi}
}

func difference(a, b Span) Span {
	if a.Lo < b.Hi {
		return All()
	}
	return Span{a.Lo - b.Hi, a.Hi - b.Lo}
}

func product(a, b Span) Span {
	lost, hi := bits.Mul64(a.Hi, b.Hi)
	if lost != 0 {
		return All()
	}
	return Span{a.Lo * b.Lo, hi}
}

// quotient asks b.Hi too: of spans that are not right nothing is promised, but they must not panic.
func quotient(a, b Span) Span {
	if b.Lo == 0 || b.Hi == 0 {
		return Span{0, a.Hi}
	}
	return Span{a.Lo / b.Hi, a.Hi / b.Lo}
}

func remainder(a, b Span) Span {
	switch {
	case b.Lo > a.Hi:
		return a
	case b.Lo > 0:
		return Span{0, min(a.Hi, b.Hi-1)}
	}
	// A number divided by 0 leaves itself.
	return Span{0, a.Hi}
}

// shiftedUp looks for lost bits above bit 63 alone: those of a lesser word are cut off by who asked.
func shiftedUp(size uint64, a, b Span) Span {
	by := b.Lo % size
	if !b.isOne() || a.Hi<<by>>by != a.Hi {
		return All()
	}
	return Span{a.Lo << by, a.Hi << by}
}

func shiftedDown(size uint64, a, b Span) Span {
	if b.Hi >= size {
		return Span{0, a.Hi}
	}
	return Span{a.Lo >> b.Hi, a.Hi >> b.Lo}
}

// ones is the least 2^k - 1 that is not below n.
func ones(n uint64) uint64 {
	return 1<<bits.Len64(n) - 1
}
