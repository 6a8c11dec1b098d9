package span_test

import (
	"math/big"
	"slices"
	"testing"

	"swingbridge/alu"
	"swingbridge/api"
	"swingbridge/span"
)

const (
	top  = 1<<64 - 1
	word = 1<<32 - 1
)

func s(lo, hi uint64) span.Span { return span.Span{Lo: lo, Hi: hi} }

// edges are numbers around which a word, a sign, a shift or a power of two begins or ends; rising.
func edges() []uint64 {
	return []uint64{
		0, 1, 2, 5, 8, 31, 32, 33, 63, 64, 65, 1 << 16, 1<<31 - 1, 1 << 31,
		word, word + 1, 1<<33 + 3, 1<<63 - 1, 1 << 63, top - 1, top,
	}
}

// between are all right spans from one of the numbers (rising) to another one, or to itself.
func between(numbers []uint64) []span.Span {
	var out []span.Span
	for i, lo := range numbers {
		for _, hi := range numbers[i:] {
			out = append(out, s(lo, hi))
		}
	}
	return out
}

// some are numbers of a span: its ends, and what stands beside and between them.
func some(x span.Span) []uint64 {
	if x.Hi-x.Lo < 5 {
		var out []uint64
		for n := range x.Hi - x.Lo + 1 {
			out = append(out, x.Lo+n)
		}
		return out
	}
	return []uint64{x.Lo, x.Lo + 1, x.Lo + (x.Hi-x.Lo)/2, x.Hi - 1, x.Hi}
}

func within(in, out span.Span) bool { return out.Lo <= in.Lo && in.Hi <= out.Hi }

func does(t *testing.T, op uint8, wide bool, a, b, want span.Span) {
	t.Helper()
	if got := span.Do(op, wide, a, b); got != want {
		t.Errorf("Do(%#x, %v, %v, %v): %v, want %v", op, wide, a, b, got, want)
	}
}

// both is does, of words of both sizes, that make the same.
func both(t *testing.T, op uint8, a, b, want span.Span) {
	t.Helper()
	does(t, op, true, a, b, want)
	does(t, op, false, a, b, want)
}

func leaves(t *testing.T, op uint8, a, b, want span.Span) {
	t.Helper()
	if got, ok := span.Where(op, a, b); got != want || !ok {
		t.Errorf("Where(%#x, %v, %v): %v, %v, want %v", op, a, b, got, ok, want)
	}
}

func leavesNone(t *testing.T, op uint8, a, b span.Span) {
	t.Helper()
	if got, ok := span.Where(op, a, b); got != s(0, 0) || ok {
		t.Errorf("Where(%#x, %v, %v): %v, %v, want none", op, a, b, got, ok)
	}
}

func TestH1AllAndOne(t *testing.T) {
	if got := span.All(); got != s(0, top) {
		t.Errorf("All: %v", got)
	}
	for _, n := range edges() {
		if got := span.One(n); got != s(n, n) || !got.Right() || !got.Has(n) || got.Has(n-1) || got.Has(n+1) {
			t.Errorf("One(%d): %v", n, got)
		}
	}
}

func TestH1RightAndHas(t *testing.T) {
	for _, lo := range edges() {
		for _, hi := range edges() {
			x := s(lo, hi)
			if x.Right() != (lo <= hi) {
				t.Errorf("%v.Right(): %v", x, x.Right())
			}
			for _, n := range edges() {
				if x.Right() && x.Has(n) != (lo <= n && n <= hi) {
					t.Errorf("%v.Has(%d): %v", x, n, x.Has(n))
				}
			}
		}
	}
}

func TestH1JoinAndMeet(t *testing.T) {
	for _, x := range []struct {
		a, b, join, meet span.Span
		ok               bool
	}{
		{s(1, 2), s(5, 6), s(1, 6), s(0, 0), false},
		{s(1, 5), s(5, 6), s(1, 6), s(5, 5), true},
		{s(1, 5), s(6, 9), s(1, 9), s(0, 0), false},
		{s(1, 5), s(3, 9), s(1, 9), s(3, 5), true},
		{s(1, 9), s(3, 4), s(1, 9), s(3, 4), true},
		{s(0, 0), s(0, 0), s(0, 0), s(0, 0), true},
		{s(0, 0), s(top, top), s(0, top), s(0, 0), false},
		{s(0, top), s(top, top), s(0, top), s(top, top), true},
		{s(0, 1<<63), s(1<<63, top), s(0, top), s(1<<63, 1<<63), true},
	} {
		for range 2 {
			if got := x.a.Join(x.b); got != x.join {
				t.Errorf("%v.Join(%v): %v, want %v", x.a, x.b, got, x.join)
			}
			if got, ok := x.a.Meet(x.b); got != x.meet || ok != x.ok {
				t.Errorf("%v.Meet(%v): %v, %v, want %v, %v", x.a, x.b, got, ok, x.meet, x.ok)
			}
			x.a, x.b = x.b, x.a
		}
	}
}

// TestH1JoinAndMeetOfNumbers: each number is in the meet, if it is in both; in the join, if it is in one.
func TestH1JoinAndMeetOfNumbers(t *testing.T) {
	numbers := edges()
	for _, a := range between(numbers) {
		for _, b := range between(numbers) {
			join := a.Join(b)
			meet, ok := a.Meet(b)
			any := false
			for _, n := range numbers {
				in := a.Has(n) && b.Has(n)
				any = any || in
				if in != (ok && meet.Has(n)) || (a.Has(n) || b.Has(n)) && !join.Has(n) {
					t.Fatalf("%v and %v: %d, of %v (%v) and %v", a, b, n, meet, ok, join)
				}
			}
			if ok != any || !ok && meet != s(0, 0) || !join.Right() || join.Lo != a.Lo && join.Lo != b.Lo || join.Hi != a.Hi && join.Hi != b.Hi {
				t.Fatalf("%v and %v: %v (%v) and %v", a, b, meet, ok, join)
			}
		}
	}
}

func TestH1Low(t *testing.T) {
	for _, x := range []struct{ of, want span.Span }{
		{s(0, 0), s(0, 0)},
		{s(3, 9), s(3, 9)},
		{s(3, word), s(3, word)},
		{s(word, word), s(word, word)},
		{s(3, word+1), s(0, word)},
		{s(word+1, word+1), s(0, word)},
		{s(1<<40, 1<<40+5), s(0, word)},
		{s(top, top), s(0, word)},
		{s(0, top), s(0, word)},
	} {
		if got := x.of.Low(); got != x.want {
			t.Errorf("%v.Low(): %v, want %v", x.of, got, x.want)
		}
	}
}

func TestH2ExampleOfTheChapter(t *testing.T) {
	both(t, api.Add, s(0, 9), s(1, 2), s(1, 11))
}

func TestH2AddAndSub(t *testing.T) {
	does(t, api.Add, true, s(3, top-2), s(1, 2), s(4, top))
	does(t, api.Add, true, s(3, top-1), s(1, 2), span.All())
	does(t, api.Add, true, s(top-1, top), s(1, 2), span.All())
	does(t, api.Add, true, s(3, word), s(1, 2), s(4, word+2))
	does(t, api.Add, false, s(3, word-2), s(1, 2), s(4, word))
	does(t, api.Add, false, s(3, word-1), s(1, 2), s(0, word))
	both(t, api.Sub, s(5, 9), s(1, 2), s(3, 8))
	both(t, api.Sub, s(2, 9), s(1, 2), s(0, 8))
	does(t, api.Sub, true, s(1, 9), s(1, 2), span.All())
	does(t, api.Sub, false, s(1, 9), s(1, 2), s(0, word))
	does(t, api.Sub, true, span.All(), s(0, 0), span.All())
	does(t, api.Sub, true, s(top-1, top), s(0, top-1), s(0, top))
}

func TestH2Mul(t *testing.T) {
	both(t, api.Mul, s(2, 3), s(4, 5), s(8, 15))
	both(t, api.Mul, s(0, 3), s(4, 5), s(0, 15))
	does(t, api.Mul, true, s(1, word), s(2, word+2), s(2, top))
	does(t, api.Mul, true, s(1, word+1), s(2, word+1), span.All())
	does(t, api.Mul, false, s(2, 1<<16), s(3, 1<<16-1), s(6, 1<<32-1<<16))
	does(t, api.Mul, false, s(2, 1<<16), s(3, 1<<16), s(0, word))
	does(t, api.Mul, true, span.All(), s(1, 1), span.All())
	does(t, api.Mul, true, span.All(), s(0, 0), s(0, 0))
}

func TestH2DivAndMod(t *testing.T) {
	both(t, api.Div, s(8, 9), s(2, 4), s(2, 4))
	both(t, api.Div, s(8, 9), s(1, 10), s(0, 9))
	both(t, api.Div, s(8, 9), s(0, 4), s(0, 9))
	both(t, api.Div, s(8, 9), s(0, 0), s(0, 9))
	does(t, api.Div, true, s(8, 1<<40), s(1<<32, 1<<33), s(0, 1<<8))
	does(t, api.Div, false, s(8, 9), s(1<<32, 1<<33), s(0, 9))
	both(t, api.Mod, s(1, 3), s(4, 9), s(1, 3))
	both(t, api.Mod, s(1, 4), s(4, 9), s(0, 4))
	both(t, api.Mod, s(1, 30), s(4, 9), s(0, 8))
	both(t, api.Mod, s(1, 8), s(4, 9), s(0, 8))
	both(t, api.Mod, s(1, 7), s(4, 9), s(0, 7))
	both(t, api.Mod, s(3, 30), s(1, 1), s(0, 0))
	both(t, api.Mod, s(3, 30), s(0, 9), s(0, 30))
	both(t, api.Mod, s(3, 30), s(0, 0), s(0, 30))
	both(t, api.Mod, s(0, 0), s(0, 9), s(0, 0))
	does(t, api.Mod, true, s(3, 30), s(word+1, word+2), s(3, 30))
	does(t, api.Mod, false, s(3, 30), s(word+1, word+2), s(0, 30))
}

// TestH2Bits: ONES of 0 is 0, of 2^k - 1 itself, of 2^k all bits up to that one.
func TestH2Bits(t *testing.T) {
	both(t, api.And, s(1, 5), s(2, 9), s(0, 5))
	both(t, api.And, s(6, 7), s(7, 7), s(0, 7))
	both(t, api.Or, s(1, 5), s(2, 9), s(2, 15))
	both(t, api.Or, s(4, 7), s(2, 3), s(4, 7))
	both(t, api.Or, s(4, 8), s(2, 3), s(4, 15))
	both(t, api.Or, s(0, 1), s(0, 0), s(0, 1))
	both(t, api.Xor, s(1, 5), s(2, 9), s(0, 15))
	both(t, api.Xor, s(4, 7), s(7, 7), s(0, 7))
	both(t, api.Xor, s(4, 8), s(7, 7), s(0, 15))
	both(t, api.Xor, s(0, 1), s(0, 0), s(0, 1))
	for k := range 63 {
		n := uint64(1) << k
		does(t, api.Or, true, s(0, n), s(0, 0), s(0, 2*n-1))
		does(t, api.Xor, true, s(0, 0), s(0, n), s(0, 2*n-1))
		does(t, api.Or, true, s(0, 2*n-1), s(0, n), s(0, 2*n-1))
	}
	for _, op := range []uint8{api.Or, api.Xor} {
		does(t, op, true, s(0, 1<<63), s(0, 0), span.All())
		does(t, op, true, s(0, top), s(0, 0), span.All())
		does(t, op, false, s(0, 1<<31), s(0, 0), s(0, word))
	}
	does(t, api.Or, false, s(9, 1<<32), s(5, 5), s(5, word))
	does(t, api.Xor, false, s(9, 1<<32), s(5, 5), s(0, word))
}

func TestH2Lsh(t *testing.T) {
	both(t, api.Lsh, s(1, 2), s(3, 3), s(8, 16))
	both(t, api.Lsh, s(1, 2), s(0, 0), s(1, 2))
	both(t, api.Lsh, s(1, 2), s(64+3, 64+3), s(8, 16))
	does(t, api.Lsh, false, s(1, 2), s(32+3, 32+3), s(8, 16))
	does(t, api.Lsh, true, s(1, 2), s(32+3, 32+3), s(1<<35, 1<<36))
	does(t, api.Lsh, true, s(1, 2), s(3, 4), span.All())
	does(t, api.Lsh, false, s(1, 2), s(3, 4), s(0, word))
	does(t, api.Lsh, true, s(0, 1), s(63, 63), s(0, 1<<63))
	does(t, api.Lsh, true, s(0, 2), s(63, 63), span.All())
	does(t, api.Lsh, true, s(1, 1<<60-1), s(4, 4), s(16, 1<<64-16))
	does(t, api.Lsh, true, s(1, 1<<60), s(4, 4), span.All())
	does(t, api.Lsh, false, s(0, 1), s(31, 31), s(0, 1<<31))
	does(t, api.Lsh, false, s(0, 2), s(31, 31), s(0, word))
	does(t, api.Lsh, false, s(1, 1<<28-1), s(4, 4), s(16, 1<<32-16))
	does(t, api.Lsh, false, s(1, 1<<28), s(4, 4), s(0, word))
}

func TestH2RshAndArsh(t *testing.T) {
	for _, op := range []uint8{api.Rsh, api.Arsh} {
		both(t, op, s(8, 16), s(1, 2), s(2, 8))
		both(t, op, s(8, 16), s(0, 31), s(0, 16))
		both(t, op, s(8, 16), s(2, 2), s(2, 4))
		does(t, op, true, s(8, 16), s(2, 63), s(0, 4))
		does(t, op, true, s(8, 16), s(2, 64), s(0, 16))
		does(t, op, true, s(8, 16), s(66, 66), s(0, 16))
		does(t, op, false, s(8, 16), s(2, 31), s(0, 4))
		does(t, op, false, s(8, 16), s(2, 32), s(0, 16))
		does(t, op, true, s(8, 16), s(2, 32), s(0, 4))
		does(t, op, false, s(8, 16), s(34, 34), s(0, 16))
		does(t, op, true, s(1<<62, 1<<63-1), s(61, 62), s(1, 3))
		does(t, op, false, s(1<<30, 1<<31-1), s(29, 30), s(1, 3))
	}
	does(t, api.Rsh, true, s(1<<62, 1<<63), s(62, 62), s(1, 2))
	does(t, api.Arsh, true, s(1<<62, 1<<63), s(62, 62), span.All())
	does(t, api.Arsh, true, s(1<<30, 1<<31), s(30, 30), s(1, 2))
	does(t, api.Rsh, false, s(1<<30, 1<<31), s(30, 30), s(1, 2))
	does(t, api.Arsh, false, s(1<<30, 1<<31), s(30, 30), s(0, word))
	does(t, api.Arsh, true, s(0, 1<<63), s(64, 64), span.All())
}

func TestH2NegAndMov(t *testing.T) {
	does(t, api.Neg, true, s(3, 3), s(3, 3), span.One(1<<64-3))
	does(t, api.Neg, false, s(3, 3), s(3, 3), span.One(1<<32-3))
	does(t, api.Neg, true, s(3, 4), s(3, 4), span.All())
	does(t, api.Neg, false, s(3, 4), s(3, 4), s(0, word))
	does(t, api.Neg, true, s(3, 3), s(3, 4), span.All())
	both(t, api.Mov, s(1, 2), s(3, 4), s(3, 4))
	both(t, api.Mov, s(1, 2), s(3, 3), s(3, 3))
	does(t, api.Mov, true, s(1, 2), s(3, word+1), s(3, word+1))
	does(t, api.Mov, false, s(1, 2), s(3, word+1), s(0, word))
}

// TestH2OneAndOne: what alu tells of two numbers; not wide, one above 32 bits is no more one number.
func TestH2OneAndOne(t *testing.T) {
	for _, op := range alu.Ops() {
		for _, a := range edges() {
			for _, b := range edges() {
				n, _ := alu.Do(op, true, a, b)
				does(t, op, true, span.One(a), span.One(b), span.One(n))
				if a <= word && b <= word {
					n, _ = alu.Do(op, false, a, b)
					does(t, op, false, span.One(a), span.One(b), span.One(n))
				}
			}
		}
	}
	does(t, api.Sub, false, s(1, 1), s(2, 2), span.One(word))
	does(t, api.Add, false, s(word, word), s(2, 2), span.One(1))
	does(t, api.Add, false, s(word+1, word+1), s(2, 2), s(0, word))
	does(t, api.And, false, s(word+1, word+1), s(2, 2), s(0, 2))
}

func TestH2AnyOtherOp(t *testing.T) {
	for op := range 256 {
		if slices.Contains(alu.Ops(), uint8(op)) {
			continue
		}
		for _, a := range []span.Span{s(0, 0), s(1, 1), s(1, 9), s(word, word+1), s(0, top)} {
			does(t, uint8(op), true, a, s(1, 1), span.All())
			does(t, uint8(op), false, a, s(1, 1), s(0, word))
			does(t, uint8(op), true, a, s(1, 2), span.All())
			does(t, uint8(op), false, a, s(1, 2), s(0, word))
		}
	}
}

// TestH2HasAllThatAluMakes, and is right.
func TestH2HasAllThatAluMakes(t *testing.T) {
	spans := append(between(edges()), between([]uint64{3, 4, 6, 7, 9, 10})...)
	for _, a := range spans {
		for _, b := range spans {
			for _, op := range alu.Ops() {
				hasAll(t, op, true, a, b)
				hasAll(t, op, false, a, b)
			}
			if t.Failed() {
				return
			}
		}
	}
}

func hasAll(t *testing.T, op uint8, wide bool, a, b span.Span) {
	got := span.Do(op, wide, a, b)
	if !got.Right() || !wide && got.Hi > word {
		t.Errorf("Do(%#x, %v, %v, %v): %v", op, wide, a, b, got)
	}
	for _, x := range some(a) {
		for _, y := range some(b) {
			if n, _ := alu.Do(op, wide, x, y); !got.Has(n) {
				t.Errorf("Do(%#x, %v, %v, %v): %v, without %d of %d and %d", op, wide, a, b, got, n, x, y)
			}
		}
	}
}

// TestH2WiderSpansHaveWiderAnswers: step by step, from edge to edge, on each side.
func TestH2WiderSpansHaveWiderAnswers(t *testing.T) {
	numbers := edges()
	wider := func(x span.Span) []span.Span {
		var out []span.Span
		if i := slices.Index(numbers, x.Lo); i > 0 {
			out = append(out, s(numbers[i-1], x.Hi))
		}
		if i := slices.Index(numbers, x.Hi); i < len(numbers)-1 {
			out = append(out, s(x.Lo, numbers[i+1]))
		}
		return out
	}
	for _, a := range between(numbers) {
		for _, b := range between(numbers) {
			for _, op := range alu.Ops() {
				for _, wide := range []bool{true, false} {
					got := span.Do(op, wide, a, b)
					for _, more := range wider(a) {
						if out := span.Do(op, wide, more, b); !within(got, out) {
							t.Fatalf("Do(%#x, %v) of %v, %v: %v, of %v: %v", op, wide, a, b, got, more, out)
						}
					}
					for _, more := range wider(b) {
						if out := span.Do(op, wide, a, more); !within(got, out) {
							t.Fatalf("Do(%#x, %v) of %v, %v: %v, of %v: %v", op, wide, a, b, got, more, out)
						}
					}
				}
			}
		}
	}
}

// long is a span of numbers that lose nothing.
type long struct{ lo, hi *big.Int }

func number(n uint64) *big.Int { return new(big.Int).SetUint64(n) }

func fits(n *big.Int) bool { return n.Sign() >= 0 && n.BitLen() <= 64 }

// onesOf counts up to the least 2^k - 1 that is not below n.
func onesOf(n uint64) *big.Int {
	out := new(big.Int)
	for out.Cmp(number(n)) < 0 {
		out.Add(out.Lsh(out, 1), big.NewInt(1))
	}
	return out
}

// worded is Do as the chapter words it.
func worded(op uint8, wide bool, a, b span.Span) span.Span {
	low := func(x span.Span) span.Span {
		if wide || x.Hi < 1<<32 {
			return x
		}
		return s(0, word)
	}
	a, b = low(a), low(b)
	if a.Lo == a.Hi && b.Lo == b.Hi {
		n, _ := alu.Do(op, wide, a.Lo, b.Lo)
		return span.One(n)
	}
	bits := uint64(32)
	if wide {
		bits = 64
	}
	got := byOp(op, bits, a, b)
	if got == nil || !fits(got.lo) || !fits(got.hi) {
		return low(s(0, top))
	}
	return low(s(got.lo.Uint64(), got.hi.Uint64()))
}

// byOp is the chapter's third rule; nil, or what does not fit, where it has none.
func byOp(op uint8, bits uint64, a, b span.Span) *long {
	zero, aLo, aHi, bLo, bHi := new(big.Int), number(a.Lo), number(a.Hi), number(b.Lo), number(b.Hi)
	z := func() *big.Int { return new(big.Int) }
	switch op {
	case 0x00:
		return &long{z().Add(aLo, bLo), z().Add(aHi, bHi)}
	case 0x10:
		return &long{z().Sub(aLo, bHi), z().Sub(aHi, bLo)}
	case 0x20:
		return &long{z().Mul(aLo, bLo), z().Mul(aHi, bHi)}
	case 0x30:
		if b.Lo > 0 {
			return &long{z().Div(aLo, bHi), z().Div(aHi, bLo)}
		}
		return &long{zero, aHi}
	case 0x40:
		return &long{number(max(a.Lo, b.Lo)), onesOf(max(a.Hi, b.Hi))}
	case 0x50:
		return &long{zero, number(min(a.Hi, b.Hi))}
	case 0x60:
		if b.Lo == b.Hi {
			return &long{z().Lsh(aLo, uint(b.Lo%bits)), z().Lsh(aHi, uint(b.Lo%bits))}
		}
	case 0x70, 0xC0:
		if op == 0xC0 && aHi.Bit(int(bits)-1) == 1 {
			return nil
		}
		if b.Hi < bits {
			return &long{z().Rsh(aLo, uint(b.Hi)), z().Rsh(aHi, uint(b.Lo))}
		}
		return &long{zero, aHi}
	case 0x90:
		if b.Lo > a.Hi {
			return &long{aLo, aHi}
		}
		if b.Lo > 0 {
			return &long{zero, number(min(a.Hi, b.Hi-1))}
		}
		return &long{zero, aHi}
	case 0xA0:
		return &long{zero, onesOf(max(a.Hi, b.Hi))}
	case 0xB0:
		return &long{bLo, bHi}
	}
	return nil
}

func TestH2AgainstTheWording(t *testing.T) {
	spans := append(between(edges()), between([]uint64{3, 4, 6, 7, 9, 10})...)
	for _, a := range spans {
		for _, b := range spans {
			for _, op := range alu.Ops() {
				does(t, op, true, a, b, worded(op, true, a, b))
				does(t, op, false, a, b, worded(op, false, a, b))
			}
			if t.Failed() {
				return
			}
		}
	}
}

func TestH3Jeq(t *testing.T) {
	leaves(t, api.Jeq, s(1, 5), s(4, 9), s(4, 5))
	leaves(t, api.Jeq, s(1, 5), s(5, 9), s(5, 5))
	leaves(t, api.Jeq, s(0, top), s(0, 0), s(0, 0))
	leavesNone(t, api.Jeq, s(1, 5), s(6, 9))
	leavesNone(t, api.Jeq, s(6, 9), s(1, 5))
}

func TestH3Jne(t *testing.T) {
	leavesNone(t, api.Jne, s(5, 5), s(5, 5))
	leavesNone(t, api.Jne, s(0, 0), s(0, 0))
	leavesNone(t, api.Jne, s(top, top), s(top, top))
	leaves(t, api.Jne, s(1, 5), s(5, 5), s(1, 4))
	leaves(t, api.Jne, s(1, 5), s(1, 1), s(2, 5))
	leaves(t, api.Jne, s(4, 5), s(4, 4), s(5, 5))
	leaves(t, api.Jne, s(4, 5), s(5, 5), s(4, 4))
	leaves(t, api.Jne, s(1, 5), s(3, 3), s(1, 5))
	leaves(t, api.Jne, s(1, 5), s(6, 6), s(1, 5))
	leaves(t, api.Jne, s(1, 5), s(1, 2), s(1, 5))
	leaves(t, api.Jne, s(1, 5), s(4, 5), s(1, 5))
	leaves(t, api.Jne, s(1, 5), s(1, 5), s(1, 5))
	leaves(t, api.Jne, s(5, 5), s(5, 6), s(5, 5))
	leaves(t, api.Jne, s(5, 5), s(4, 4), s(5, 5))
	leaves(t, api.Jne, s(0, top), s(0, 0), s(1, top))
	leaves(t, api.Jne, s(0, top), s(top, top), s(0, top-1))
}

func TestH3Orders(t *testing.T) {
	leaves(t, api.Jgt, s(1, 5), s(2, 9), s(3, 5))
	leaves(t, api.Jgt, s(3, 5), s(0, 0), s(3, 5))
	leaves(t, api.Jgt, s(1, 5), s(4, 4), s(5, 5))
	leavesNone(t, api.Jgt, s(1, 5), s(5, 9))
	leaves(t, api.Jgt, s(0, top), s(top-1, top), s(top, top))
	leavesNone(t, api.Jgt, s(0, top), s(top, top))
	leaves(t, api.Jge, s(1, 5), s(2, 9), s(2, 5))
	leaves(t, api.Jge, s(1, 5), s(5, 9), s(5, 5))
	leaves(t, api.Jge, s(1, 5), s(0, 9), s(1, 5))
	leavesNone(t, api.Jge, s(1, 5), s(6, 9))
	leaves(t, api.Jge, s(0, top), s(top, top), s(top, top))
	leaves(t, api.Jlt, s(1, 5), s(0, 3), s(1, 2))
	leaves(t, api.Jlt, s(1, 5), s(0, 9), s(1, 5))
	leaves(t, api.Jlt, s(1, 5), s(2, 2), s(1, 1))
	leavesNone(t, api.Jlt, s(1, 5), s(0, 1))
	leaves(t, api.Jlt, s(0, top), s(0, 1), s(0, 0))
	leavesNone(t, api.Jlt, s(0, top), s(0, 0))
	leaves(t, api.Jle, s(1, 5), s(0, 3), s(1, 3))
	leaves(t, api.Jle, s(1, 5), s(0, 1), s(1, 1))
	leaves(t, api.Jle, s(1, 5), s(0, 9), s(1, 5))
	leavesNone(t, api.Jle, s(1, 5), s(0, 0))
	leaves(t, api.Jle, s(0, top), s(0, 0), s(0, 0))
}

// TestH3NumberByNumber: of short spans at both ends of all numbers, the least span with all numbers for which the test holds.
func TestH3NumberByNumber(t *testing.T) {
	for _, from := range []uint64{0, 1<<63 - 3, word - 3, top - 5} {
		spans := between([]uint64{from, from + 1, from + 2, from + 3, from + 4, from + 5})
		for _, a := range spans {
			for _, b := range spans {
				for _, op := range []uint8{api.Jeq, api.Jne, api.Jgt, api.Jge, api.Jlt, api.Jle} {
					if l := holding(op, a, b); len(l) == 0 {
						leavesNone(t, op, a, b)
					} else {
						leaves(t, op, a, b, s(l[0], l[len(l)-1]))
					}
				}
			}
		}
	}
}

// holding are the numbers of a for which the test holds against some number of b, rising.
func holding(op uint8, a, b span.Span) []uint64 {
	var out []uint64
	for x := range a.Hi - a.Lo + 1 {
		for y := range b.Hi - b.Lo + 1 {
			if is, _ := alu.Test(op, true, a.Lo+x, b.Lo+y); is {
				out = append(out, a.Lo+x)
				break
			}
		}
	}
	return out
}

// TestH3HasAllThatHold: of all tests, and with spans from edge to edge.
func TestH3HasAllThatHold(t *testing.T) {
	for _, a := range between(edges()) {
		for _, b := range between(edges()) {
			for _, op := range alu.Tests() {
				got, ok := span.Where(op, a, b)
				if ok && !(got.Right() && within(got, a)) || !ok && got != s(0, 0) {
					t.Fatalf("Where(%#x, %v, %v): %v, %v", op, a, b, got, ok)
				}
				for _, x := range some(a) {
					for _, y := range some(b) {
						if is, _ := alu.Test(op, true, x, y); is && !(ok && got.Has(x)) {
							t.Fatalf("Where(%#x, %v, %v): %v, %v, without %d (against %d)", op, a, b, got, ok, x, y)
						}
					}
				}
			}
		}
	}
}

// TestH3AnyOtherOp: also of tests that ask for bits or signs, and of what is no test.
func TestH3AnyOtherOp(t *testing.T) {
	cutting := []uint8{api.Jeq, api.Jne, api.Jgt, api.Jge, api.Jlt, api.Jle}
	for op := range 256 {
		if slices.Contains(cutting, uint8(op)) {
			continue
		}
		for _, a := range []span.Span{s(0, 0), s(1, 5), s(5, 5), s(0, top), s(top, top)} {
			for _, b := range []span.Span{s(0, 0), s(5, 5), s(8, 8), s(0, top), s(top, top)} {
				leaves(t, uint8(op), a, b, a)
			}
		}
	}
}

// TestSpansThatAreNotRight: nothing is promised of them, but that no call panics.
func TestSpansThatAreNotRight(t *testing.T) {
	for _, lo := range edges() {
		for _, hi := range edges() {
			for _, other := range []span.Span{s(0, 0), s(1, 0), s(5, 0), s(7, 3), s(3, 7), s(top, 0), s(word+1, word), s(0, top)} {
				x := s(lo, hi)
				x.Join(other)
				x.Meet(other)
				x.Low()
				for op := range 256 {
					span.Do(uint8(op), true, x, other)
					span.Do(uint8(op), true, other, x)
					span.Do(uint8(op), false, x, other)
					span.Do(uint8(op), false, other, x)
					span.Where(uint8(op), x, other)
					span.Where(uint8(op), other, x)
				}
			}
		}
	}
}
