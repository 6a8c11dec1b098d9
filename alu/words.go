package alu

import (
	"math/bits"

	"swingbridge/api"
)

// word is what operations are done on. It has no sign: where one is asked for, signed tells it.
type word interface{ uint32 | uint64 }

func do[W word](op uint8, a, b W) (W, bool) {
	switch op {
	case api.Add:
		return a + b, true
	case api.Sub:
		return a - b, true
	case api.Mul:
		return a * b, true
	case api.Div:
		return quotient(a, b), true
	case api.Or:
		return a | b, true
	case api.And:
		return a & b, true
	case api.Lsh:
		return a << places(b), true
	case api.Rsh:
		return a >> places(b), true
	case api.Neg:
		return -a, true
	case api.Mod:
		return remainder(a, b), true
	case api.Xor:
		return a ^ b, true
	case api.Mov:
		return b, true
	case api.Arsh:
		return W(signed(a) >> places(b)), true
	}
	return 0, false
}

func test[W word](op uint8, a, b W) (holds, known bool) {
	switch op {
	case api.Jeq:
		return a == b, true
	case api.Jgt:
		return a > b, true
	case api.Jge:
		return a >= b, true
	case api.Jset:
		return a&b != 0, true
	case api.Jne:
		return a != b, true
	case api.Jsgt:
		return signed(a) > signed(b), true
	case api.Jsge:
		return signed(a) >= signed(b), true
	case api.Jlt:
		return a < b, true
	case api.Jle:
		return a <= b, true
	case api.Jslt:
		return signed(a) < signed(b), true
	case api.Jsle:
		return signed(a) <= signed(b), true
	}
	return false, false
}

func quotient[W word](a, b W) W {
	if b == 0 {
		return 0
	}
	return a / b
}

func remainder[W word](a, b W) W {
	if b == 0 {
		return a
	}
	return a % b
}

// places is by how many bits b shifts: never by as many as a word has.
func places[W word](b W) W { return b % W(bits.OnesCount64(uint64(^W(0)))) }

// signed is the word as a number with a sign, whose place only the word's own type tells.
func signed[W word](w W) int64 {
	if short, ok := any(w).(uint32); ok {
		return int64(int32(short))
	}
	return int64(w)
}
