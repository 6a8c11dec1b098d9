package alu_test

import (
	"math/big"
	"slices"
	"testing"

	"swingbridge/alu"
	"swingbridge/api"
)

// The chapter's operations, to base sixteen.
const (
	ops   = "\x00\x10\x20\x30\x40\x50\x60\x70\x80\x90\xA0\xB0\xC0"
	tests = "\x10\x20\x30\x40\x50\x60\x70\xA0\xB0\xC0\xD0"
)

// edges are numbers around which a word of either size, a sign or a shift begins or ends.
func edges() []uint64 {
	out := []uint64{0x0123456789ABCDEF, 0xFEDCBA9876543210, 0xAAAAAAAA55555555, 0x5555555580000001, 0x80000000FFFFFFFF, 0x7FFFFFFF00000000}
	for _, n := range []uint64{0, 7, 9, 1 << 4, 1 << 5, 1 << 6, 1 << 7, 1 << 16, 1 << 31, 1 << 32, 1 << 33, 1<<32 + 32, 1<<32 + 64, 1<<32 + 1<<31, 1 << 63, 1<<63 + 1<<31} {
		out = append(out, n-2, n-1, n, n+1, n+2)
	}
	slices.Sort(out)
	return slices.Compact(out)
}

// drawn is numbers of all sizes in which no short pattern comes again.
func drawn(n int) []uint64 {
	out, c := make([]uint64, n), uint64(1)
	for i := range out {
		c = c*6364136223846793005 + 1442695040888963407
		out[i] = (c ^ c>>33) >> (c >> 59 << 1)
	}
	return out
}

// pairs are all edges against each other, and numbers that are drawn.
func pairs(yield func(a, b uint64) bool) {
	for _, a := range edges() {
		for _, b := range edges() {
			if !yield(a, b) {
				return
			}
		}
	}
	l := drawn(4000)
	for i := 1; i < len(l); i++ {
		if !yield(l[i-1], l[i]) {
			return
		}
	}
}

func bitsOf(wide bool) uint {
	if wide {
		return 64
	}
	return 32
}

// number is the lowest bits of n alone, without a sign.
func number(bits uint, n uint64) *big.Int {
	return modulo(bits, new(big.Int).SetUint64(n))
}

// modulo is n without what does not fit into so many bits.
func modulo(bits uint, n *big.Int) *big.Int {
	return new(big.Int).Mod(n, new(big.Int).Lsh(big.NewInt(1), bits))
}

// withSign is n in two's complement.
func withSign(bits uint, n *big.Int) *big.Int {
	if n.Bit(int(bits)-1) == 0 {
		return n
	}
	return new(big.Int).Sub(n, new(big.Int).Lsh(big.NewInt(1), bits))
}

// made is Do as the chapter words it, done with numbers that lose nothing, and cut at the end.
func made(op uint8, wide bool, a, b uint64) uint64 {
	bits := bitsOf(wide)
	x, y, z := number(bits, a), number(bits, b), new(big.Int)
	by := uint(b % uint64(bits))
	switch op {
	case 0x00:
		z.Add(x, y)
	case 0x10:
		z.Sub(x, y)
	case 0x20:
		z.Mul(x, y)
	case 0x30:
		if y.Sign() != 0 {
			z.Div(x, y)
		}
	case 0x40:
		z.Or(x, y)
	case 0x50:
		z.And(x, y)
	case 0x60:
		z.Lsh(x, by)
	case 0x70:
		z.Rsh(x, by)
	case 0x80:
		z.Neg(x)
	case 0x90:
		z = x
		if y.Sign() != 0 {
			z = new(big.Int).Mod(x, y)
		}
	case 0xA0:
		z.Xor(x, y)
	case 0xB0:
		z = y
	case 0xC0:
		z.Rsh(withSign(bits, x), by)
	}
	return modulo(bits, z).Uint64()
}

// holds is Test as the chapter words it.
func holds(op uint8, wide bool, a, b uint64) bool {
	bits := bitsOf(wide)
	x, y := number(bits, a), number(bits, b)
	order, signed := x.Cmp(y), withSign(bits, x).Cmp(withSign(bits, y))
	switch op {
	case 0x10:
		return order == 0
	case 0x20:
		return order > 0
	case 0x30:
		return order >= 0
	case 0x40:
		return new(big.Int).And(x, y).Sign() != 0
	case 0x50:
		return order != 0
	case 0x60:
		return signed > 0
	case 0x70:
		return signed >= 0
	case 0xA0:
		return order < 0
	case 0xB0:
		return order <= 0
	case 0xC0:
		return signed < 0
	}
	return signed <= 0
}

func does(t *testing.T, op uint8, wide bool, a, b, want uint64) {
	t.Helper()
	if n, ok := alu.Do(op, wide, a, b); n != want || !ok {
		t.Errorf("Do(%#x, %v, %#x, %#x): %#x, %v, want %#x", op, wide, a, b, n, ok, want)
	}
}

// asks holds a test's answers of both sizes against what is wanted.
func asks(t *testing.T, op uint8, a, b uint64, wide, low bool) {
	t.Helper()
	if is, ok := alu.Test(op, true, a, b); is != wide || !ok {
		t.Errorf("Test(%#x, true, %#x, %#x): %v, %v", op, a, b, is, ok)
	}
	if is, ok := alu.Test(op, false, a, b); is != low || !ok {
		t.Errorf("Test(%#x, false, %#x, %#x): %v, %v", op, a, b, is, ok)
	}
}

func TestG1Ops(t *testing.T) {
	if got := alu.Ops(); !slices.Equal(got, []uint8(ops)) {
		t.Errorf("Ops: % x", got)
	}
	named := []uint8{api.Add, api.Sub, api.Mul, api.Div, api.Or, api.And, api.Lsh, api.Rsh, api.Neg, api.Mod, api.Xor, api.Mov, api.Arsh}
	if got := alu.Ops(); !slices.Equal(got, named) {
		t.Errorf("Ops: % x, want % x", got, named)
	}
}

func TestG1ExamplesOfTheChapter(t *testing.T) {
	does(t, api.Div, true, 7, 0, 0)
	does(t, api.Mod, true, 7, 0, 7)
}

func TestG1WhatDoesNotFitIsLost(t *testing.T) {
	does(t, api.Add, true, 1<<64-1, 1, 0)
	does(t, api.Add, true, 1<<63, 1<<63+5, 5)
	does(t, api.Add, true, 1<<32-1, 1, 1<<32)
	does(t, api.Add, false, 1<<32-1, 1, 0)
	does(t, api.Sub, true, 0, 1, 1<<64-1)
	does(t, api.Sub, true, 1<<32, 1, 1<<32-1)
	does(t, api.Sub, false, 0, 1, 1<<32-1)
	does(t, api.Mul, true, 1<<32, 1<<32, 0)
	does(t, api.Mul, true, 1<<64-1, 1<<64-1, 1)
	does(t, api.Mul, true, 1<<16, 1<<16, 1<<32)
	does(t, api.Mul, false, 1<<16, 1<<16, 0)
	does(t, api.Mul, false, 1<<32-1, 1<<32-1, 1)
	does(t, api.Neg, true, 0, 9, 0)
	does(t, api.Neg, true, 1<<63, 9, 1<<63)
	does(t, api.Neg, false, 0, 9, 0)
	does(t, api.Neg, false, 1<<31, 9, 1<<31)
}

func TestG1DivisionHasNoSign(t *testing.T) {
	does(t, api.Div, true, 1<<64-1, 2, 1<<63-1)
	does(t, api.Div, true, 1<<63, 1<<64-1, 0)
	does(t, api.Mod, true, 1<<63, 1<<64-1, 1<<63)
	does(t, api.Mod, true, 1<<64-1, 10, 5)
	does(t, api.Div, false, 1<<32-1, 2, 1<<31-1)
	does(t, api.Div, false, 1<<31, 1<<32-1, 0)
	does(t, api.Mod, false, 1<<31, 1<<32-1, 1<<31)
	does(t, api.Mod, false, 1<<32-1, 10, 5)
}

// TestG1DivisionByNothing: not wide, that is also what has its bits above 31 alone.
func TestG1DivisionByNothing(t *testing.T) {
	for _, a := range edges() {
		does(t, api.Div, true, a, 0, 0)
		does(t, api.Mod, true, a, 0, a)
		for _, b := range []uint64{0, 1 << 32, 1<<64 - 1<<32} {
			does(t, api.Div, false, a, b, 0)
			does(t, api.Mod, false, a, b, a&0xFFFFFFFF)
		}
	}
	does(t, api.Div, true, 1<<40, 1<<32, 1<<8)
	does(t, api.Mod, true, 1<<40+3, 1<<32, 3)
}

func TestG1Shifts(t *testing.T) {
	for b := range uint64(64) {
		for _, more := range []uint64{0, 64, 128, 1 << 32, 1 << 63, 1<<64 - 64} {
			does(t, api.Lsh, true, 1, b+more, 1<<b)
			does(t, api.Rsh, true, 1<<63, b+more, 1<<(63-b))
			does(t, api.Arsh, true, 1<<63, b+more, ^uint64(0)<<(63-b))
			does(t, api.Arsh, true, 1<<63-1, b+more, (1<<63-1)>>b)
		}
	}
	for b := range uint64(32) {
		for _, more := range []uint64{0, 32, 64, 1 << 31, 1 << 32, 1<<64 - 32} {
			does(t, api.Lsh, false, 1, b+more, 1<<b)
			does(t, api.Rsh, false, 1<<31, b+more, 1<<(31-b))
			does(t, api.Arsh, false, 1<<31, b+more, uint64(^uint32(0)<<(31-b)))
			does(t, api.Arsh, false, 1<<31-1, b+more, (1<<31-1)>>b)
		}
	}
}

// TestG1SignOfALowWord: it is bit 31 that is kept, whatever stands above.
func TestG1SignOfALowWord(t *testing.T) {
	does(t, api.Arsh, false, 1<<63+8, 1, 4)
	does(t, api.Arsh, false, 0xFFFFFFFF00000008, 3, 1)
	does(t, api.Arsh, false, 0x180000000, 31, 0xFFFFFFFF)
	does(t, api.Arsh, false, 0x80000000, 0, 0x80000000)
	does(t, api.Arsh, true, 0x80000000, 31, 1)
	does(t, api.Rsh, false, 0x1FFFFFFFF, 1, 0x7FFFFFFF)
}

// TestG1EachOpByItself: where two of them make the same of 12 and 5, other numbers tell them apart.
func TestG1EachOpByItself(t *testing.T) {
	for i, want := range []uint64{17, 7, 60, 2, 13, 4, 384, 0, 1<<64 - 12, 2, 9, 5, 0} {
		does(t, ops[i], true, 12, 5, want)
		does(t, ops[i], false, 12, 5, want&0xFFFFFFFF)
	}
	does(t, api.Div, true, 13, 5, 2)
	does(t, api.Mod, true, 13, 5, 3)
	does(t, api.Rsh, true, 1<<64-1, 60, 15)
	does(t, api.Arsh, true, 1<<64-1, 60, 1<<64-1)
}

func TestG1AgainstTheWording(t *testing.T) {
	for _, op := range []byte(ops) {
		for _, wide := range []bool{true, false} {
			for a, b := range pairs {
				if want := made(op, wide, a, b); !t.Failed() {
					does(t, op, wide, a, b, want)
				}
			}
		}
	}
}

// TestG1LowBitsAlone: not wide, nothing hangs on bits above 31, and none of them are answered.
func TestG1LowBitsAlone(t *testing.T) {
	for _, op := range []byte(ops) {
		for a, b := range pairs {
			low, _ := alu.Do(op, false, a&0xFFFFFFFF, b&0xFFFFFFFF)
			n, ok := alu.Do(op, false, a, b)
			if n != low || n>>32 != 0 || !ok {
				t.Fatalf("Do(%#x, false, %#x, %#x): %#x, %v, want %#x", op, a, b, n, ok, low)
			}
		}
	}
}

func TestG1AnyOtherOp(t *testing.T) {
	known := 0
	for op := range 256 {
		is := slices.Contains([]byte(ops), byte(op))
		if is {
			known++
		}
		for _, wide := range []bool{true, false} {
			for _, a := range edges() {
				n, ok := alu.Do(uint8(op), wide, a, 5)
				if ok != is || !is && n != 0 {
					t.Fatalf("Do(%#x, %v, %#x, 5): %#x, %v", op, wide, a, n, ok)
				}
			}
		}
	}
	if known != 13 {
		t.Errorf("%d operations are known", known)
	}
}

func TestG2Tests(t *testing.T) {
	if got := alu.Tests(); !slices.Equal(got, []uint8(tests)) {
		t.Errorf("Tests: % x", got)
	}
	named := []uint8{api.Jeq, api.Jgt, api.Jge, api.Jset, api.Jne, api.Jsgt, api.Jsge, api.Jlt, api.Jle, api.Jslt, api.Jsle}
	if got := alu.Tests(); !slices.Equal(got, named) {
		t.Errorf("Tests: % x, want % x", got, named)
	}
}

// TestG2Orders: of less, of the same, and of greater numbers, without a sign and with one.
func TestG2Orders(t *testing.T) {
	for _, x := range []struct {
		plain, signed       uint8
		less, same, greater bool
	}{
		{api.Jeq, api.Jeq, false, true, false},
		{api.Jne, api.Jne, true, false, true},
		{api.Jgt, api.Jsgt, false, false, true},
		{api.Jge, api.Jsge, false, true, true},
		{api.Jlt, api.Jslt, true, false, false},
		{api.Jle, api.Jsle, true, true, false},
	} {
		for _, n := range []uint64{0, 1, 5, 1<<31 - 2, 1 << 31, 1<<32 - 2} {
			asks(t, x.plain, n, n+1, x.less, x.less)
			asks(t, x.plain, n, n, x.same, x.same)
			asks(t, x.plain, n+1, n, x.greater, x.greater)
		}
		for _, n := range []uint64{0, 1, 1<<31 - 2, 1<<64 - 2, 1<<64 - 3, 1<<64 - 1, 1<<64 - 1<<31} {
			asks(t, x.signed, n, n+1, x.less, x.less)
			asks(t, x.signed, n, n, x.same, x.same)
			asks(t, x.signed, n+1, n, x.greater, x.greater)
		}
	}
}

func TestG2WhereTheSignIs(t *testing.T) {
	asks(t, api.Jgt, 1<<63, 1, true, false)
	asks(t, api.Jsgt, 1<<63, 1, false, false)
	asks(t, api.Jslt, 1<<63, 1, true, true)
	asks(t, api.Jslt, 1<<63, 1<<63-1, true, false)
	asks(t, api.Jslt, 1<<31, 1<<31-1, false, true)
	asks(t, api.Jsge, 1<<31, 0, true, false)
	asks(t, api.Jsle, 1<<31, 0, false, true)
	asks(t, api.Jsgt, 1<<32-1, 0, true, false)
	asks(t, api.Jsgt, 0, 1<<32-1, false, true)
	asks(t, api.Jsge, 1<<63+5, 4, false, true)
	asks(t, api.Jlt, 1<<31, 1<<31-1, false, false)
	asks(t, api.Jlt, 1<<63, 1<<63-1, false, true)
}

func TestG2Jset(t *testing.T) {
	for bit := range 64 {
		one := uint64(1) << bit
		asks(t, api.Jset, one, one, true, bit < 32)
		asks(t, api.Jset, one, 1<<64-1, true, bit < 32)
		asks(t, api.Jset, ^one, one, false, false)
		asks(t, api.Jset, one, 0, false, false)
		asks(t, api.Jset, 0, one, false, false)
	}
}

func TestG2AgainstTheWording(t *testing.T) {
	for _, op := range []byte(tests) {
		for a, b := range pairs {
			if !t.Failed() {
				asks(t, op, a, b, holds(op, true, a, b), holds(op, false, a, b))
				asks(t, op, a, a, holds(op, true, a, a), holds(op, false, a, a))
			}
		}
	}
}

// TestG2LowBitsAlone: not wide, nothing hangs on bits above 31.
func TestG2LowBitsAlone(t *testing.T) {
	for _, op := range []byte(tests) {
		for a, b := range pairs {
			low, _ := alu.Test(op, false, a&0xFFFFFFFF, b&0xFFFFFFFF)
			if is, ok := alu.Test(op, false, a, b); is != low || !ok {
				t.Fatalf("Test(%#x, false, %#x, %#x): %v, %v, want %v", op, a, b, is, ok, low)
			}
		}
	}
}

// TestG2AnyOtherOp: Ja, Call and Exit among them, and an Op of a whole instruction.
func TestG2AnyOtherOp(t *testing.T) {
	known := 0
	for op := range 256 {
		want := slices.Contains([]byte(tests), byte(op))
		if want {
			known++
		}
		for _, wide := range []bool{true, false} {
			for _, a := range edges() {
				is, ok := alu.Test(uint8(op), wide, a, 5)
				if ok != want || !want && is {
					t.Fatalf("Test(%#x, %v, %#x, 5): %v, %v", op, wide, a, is, ok)
				}
			}
		}
	}
	if known != 11 {
		t.Errorf("%d tests are known", known)
	}
	for _, op := range []uint8{api.Ja, api.Call, api.Exit, api.ClassJMP | api.Jeq, api.Jeq | api.SrcReg} {
		if is, ok := alu.Test(op, true, 1, 1); is || ok {
			t.Errorf("Test(%#x, true, 1, 1): %v, %v", op, is, ok)
		}
	}
}

// TestListsAreTheCallers: who writes over one changes no other one, and no call's answer.
func TestListsAreTheCallers(t *testing.T) {
	for name, list := range map[string]func() []uint8{"Ops": alu.Ops, "Tests": alu.Tests} {
		first, second := list(), list()
		want := slices.Clone(second)
		for i := range first {
			first[i] = 0xFF
		}
		_ = append(first[:1], 0xEE)
		if !slices.Equal(second, want) || !slices.Equal(list(), want) {
			t.Errorf("%s hangs on what was answered ahead: % x, % x", name, second, list())
		}
	}
	does(t, api.Add, true, 1, 2, 3)
	asks(t, api.Jeq, 1, 1, true, true)
}
