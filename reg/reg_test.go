package reg_test

import (
	"math"
	"math/big"
	"testing"

	"swingbridge/reg"
	"swingbridge/span"
)

const (
	top = 1<<64 - 1
	far = 1 << 20
)

func s(lo, hi uint64) span.Span { return span.Span{Lo: lo, Hi: hi} }

func none() reg.Reg { return reg.Reg{} }

func num(lo, hi uint64) reg.Reg { return reg.Reg{Kind: reg.Num, Num: s(lo, hi)} }

func ctx(lo, hi int) reg.Reg { return reg.Reg{Kind: reg.Ctx, Lo: lo, Hi: hi} }

func stack(lo, hi int) reg.Reg { return reg.Reg{Kind: reg.Stack, Lo: lo, Hi: hi} }

func value(m, lo, hi int) reg.Reg { return reg.Reg{Kind: reg.Value, Lo: lo, Hi: hi, Map: m} }

func ref(m int) reg.Reg { return reg.Reg{Kind: reg.Ref, Map: m} }

func maybe(m int) reg.Reg { return reg.Reg{Kind: reg.Maybe, Map: m} }

// pointers are one of each Kind of them, from lo to hi.
func pointers(lo, hi int) []reg.Reg {
	return []reg.Reg{ctx(lo, hi), stack(lo, hi), value(0, lo, hi), value(3, lo, hi)}
}

// others are no pointers.
func others() []reg.Reg {
	return []reg.Reg{none(), num(0, 0), num(1, 9), num(0, top), ref(0), ref(3), maybe(0), maybe(3)}
}

// regs are some of each Kind, and of several maps.
func regs() []reg.Reg {
	out := append(others(), num(9, 9), num(5, 20), num(top, top), ref(1), maybe(1))
	for _, x := range [][2]int{{0, 0}, {-8, 0}, {-16, -16}, {3, 9}, {-far, far}, {far, far}} {
		out = append(out, pointers(x[0], x[1])...)
		out = append(out, value(1, x[0], x[1]))
	}
	return out
}

// covered tells whether all that may be by b may be by a: an order of its own, held against what Join and Covers make.
func covered(a, b reg.Reg) bool {
	switch {
	case a.Kind == reg.None:
		return true
	case a.Kind != b.Kind || a.Map != b.Map:
		return false
	}
	return a.Num.Lo <= b.Num.Lo && b.Num.Hi <= a.Num.Hi && a.Lo <= b.Lo && b.Hi <= a.Hi
}

func joins(t *testing.T, a, b, want reg.Reg) {
	t.Helper()
	if got := a.Join(b); got != want {
		t.Errorf("%v.Join(%v): %v, want %v", a, b, got, want)
	}
	if got := b.Join(a); got != want {
		t.Errorf("%v.Join(%v): %v, want %v", b, a, got, want)
	}
}

func covers(t *testing.T, a, b reg.State, want bool) {
	t.Helper()
	if a.Covers(b) != want {
		t.Errorf("%v.Covers(%v): %v", a, b, !want)
	}
}

func moves(t *testing.T, r reg.Reg, by span.Span, down bool, want reg.Reg) {
	t.Helper()
	if got, ok := r.Move(by, down); got != want || !ok {
		t.Errorf("%v.Move(%v, %v): %v, %v, want %v", r, by, down, got, ok, want)
	}
}

func stays(t *testing.T, r reg.Reg, by span.Span, down bool) {
	t.Helper()
	if got, ok := r.Move(by, down); got != none() || ok {
		t.Errorf("%v.Move(%v, %v): %v, %v, want None", r, by, down, got, ok)
	}
}

func lies(t *testing.T, r reg.Reg, off, size, least, end, from, to int) {
	t.Helper()
	if a, b, ok := r.Within(off, size, least, end); a != from || b != to || !ok {
		t.Errorf("%v.Within(%d, %d, %d, %d): %d, %d, %v, want %d, %d", r, off, size, least, end, a, b, ok, from, to)
	}
}

func leaves(t *testing.T, r reg.Reg, off, size, least, end int) {
	t.Helper()
	if a, b, ok := r.Within(off, size, least, end); a != 0 || b != 0 || ok {
		t.Errorf("%v.Within(%d, %d, %d, %d): %d, %d, %v, want none", r, off, size, least, end, a, b, ok)
	}
}

func TestL1Kinds(t *testing.T) {
	for i, k := range []int{reg.None, reg.Num, reg.Ctx, reg.Stack, reg.Ref, reg.Value, reg.Maybe} {
		if k != i {
			t.Errorf("kind %d: %d", i, k)
		}
	}
}

func TestL1Number(t *testing.T) {
	for _, x := range []span.Span{s(0, 0), s(1, 9), s(top, top), span.All()} {
		if got, want := reg.Number(x), (reg.Reg{Kind: reg.Num, Num: x}); got != want {
			t.Errorf("Number(%v): %v", x, got)
		}
	}
}

func TestL1Start(t *testing.T) {
	var want reg.State
	want.Regs[1].Kind = 2
	want.Regs[10].Kind = 3
	if got := reg.Start(); got != want {
		t.Errorf("Start: %v", got)
	}
	changed := reg.Start()
	changed.Regs[0], changed.Stack[0] = num(1, 1), true
	if got := reg.Start(); got != want {
		t.Errorf("Start behind a change: %v", got)
	}
	if len(want.Regs) != 11 || len(want.Stack) != 512 {
		t.Errorf("%d registers, %d bytes", len(want.Regs), len(want.Stack))
	}
}

func TestL2ExampleOfTheChapter(t *testing.T) {
	joins(t, stack(-8, -8), stack(-16, -16), stack(-16, -8))
}

func TestL2Numbers(t *testing.T) {
	joins(t, num(1, 1), num(4, 4), num(1, 4))
	joins(t, num(1, 5), num(4, 9), num(1, 9))
	joins(t, num(1, 9), num(4, 5), num(1, 9))
	joins(t, num(0, 0), num(top, top), num(0, top))
	joins(t, num(7, 7), num(7, 7), num(7, 7))
}

func TestL2Pointers(t *testing.T) {
	for i, p := range pointers(-8, 4) {
		joins(t, p, pointers(-16, -12)[i], pointers(-16, 4)[i])
		joins(t, p, pointers(-6, 9)[i], pointers(-8, 9)[i])
		joins(t, p, pointers(-6, 2)[i], p)
		joins(t, p, pointers(-9, 5)[i], pointers(-9, 5)[i])
		joins(t, p, pointers(math.MinInt, math.MaxInt)[i], pointers(math.MinInt, math.MaxInt)[i])
		joins(t, p, p, p)
	}
}

func TestL2OthersThemselves(t *testing.T) {
	for _, r := range []reg.Reg{none(), ref(0), ref(3), maybe(0), maybe(3)} {
		joins(t, r, r, r)
	}
}

func TestL2NoneOfAllOthers(t *testing.T) {
	joins(t, value(1, 0, 4), value(2, 0, 4), none())
	joins(t, ref(1), ref(2), none())
	joins(t, maybe(1), maybe(2), none())
	joins(t, ref(1), maybe(1), none())
	joins(t, value(1, 0, 0), maybe(1), none())
	joins(t, value(0, 0, 0), ctx(0, 0), none())
	joins(t, stack(0, 0), ctx(0, 0), none())
	joins(t, num(0, 0), maybe(0), none())
	joins(t, num(0, 0), none(), none())
	for _, a := range regs() {
		for _, b := range regs() {
			if a.Kind != b.Kind || a.Map != b.Map {
				joins(t, a, b, none())
			}
		}
	}
}

// TestL2LeastThatCoversBoth: of all pairs, a join covers both, and is covered by whatever covers both.
func TestL2LeastThatCoversBoth(t *testing.T) {
	all := regs()
	for _, a := range all {
		for _, b := range all {
			j := a.Join(b)
			if j != b.Join(a) || !covered(j, a) || !covered(j, b) || j.Join(a) != j || j.Join(b) != j {
				t.Fatalf("%v.Join(%v): %v", a, b, j)
			}
			for _, c := range all {
				if covered(c, a) && covered(c, b) && !covered(c, j) {
					t.Fatalf("%v.Join(%v): %v, more than %v", a, b, j, c)
				}
			}
		}
	}
}

// TestL2StatesRegisterByRegister: one of them differs, or some do, all others stay.
func TestL2StatesRegisterByRegister(t *testing.T) {
	var a, b, want reg.State
	for i := range a.Regs {
		n := uint64(i)
		a.Regs[i], b.Regs[i], want.Regs[i] = num(n, n), num(n+1, n+1), num(n, n+1)
	}
	if got := a.Join(b); got != want {
		t.Errorf("Join: %v", got)
	}
	for i := range a.Regs {
		c, want := a, a
		c.Regs[i], want.Regs[i] = num(3, 30), num(min(3, uint64(i)), 30)
		if got := a.Join(c); got != want {
			t.Errorf("register %d: %v", i, got)
		}
		if got := c.Join(a); got != want {
			t.Errorf("register %d: %v", i, got)
		}
		c.Regs[i], want.Regs[i] = ref(1), none()
		if got := a.Join(c); got != want {
			t.Errorf("register %d: %v", i, got)
		}
	}
}

func TestL2StatesByteByByte(t *testing.T) {
	var a, b, both reg.State
	for i := range a.Stack {
		a.Stack[i], b.Stack[i], both.Stack[i] = i%2 == 0, i%3 == 0, i%6 == 0
	}
	for _, x := range [][3]reg.State{{a, b, both}, {b, a, both}, {a, a, a}, {a, reg.State{}, {}}, {{}, b, {}}} {
		if got := x[0].Join(x[1]); got != x[2] {
			t.Errorf("Join of %v and %v: %v", x[0].Stack, x[1].Stack, got.Stack)
		}
	}
}

// TestL2StatesStay: what is joined stays as it was, and is the caller's.
func TestL2StatesStay(t *testing.T) {
	a, b := reg.Start(), reg.State{}
	a.Stack[7], b.Regs[1] = true, num(1, 2)
	was, other := a, b
	j := a.Join(b)
	j.Regs[10], j.Stack[9] = num(4, 4), true
	a.Covers(b)
	if a != was || b != other {
		t.Errorf("%v, %v", a, b)
	}
}

func TestL2CoversRegisterByRegister(t *testing.T) {
	for i := range (reg.State{}).Regs {
		for _, x := range regs() {
			for _, y := range regs() {
				a, b := reg.Start(), reg.Start()
				a.Regs[i], b.Regs[i] = x, y
				covers(t, a, b, covered(x, y))
			}
		}
		if t.Failed() {
			return
		}
	}
}

// TestL2CoversByteByByte: what covers has no more written.
func TestL2CoversByteByByte(t *testing.T) {
	for i := range (reg.State{}).Stack {
		a, b := reg.Start(), reg.Start()
		a.Stack[i] = true
		covers(t, a, b, false)
		covers(t, b, a, true)
		covers(t, a, a, true)
		b.Stack[(i+1)%512] = true
		covers(t, a, b, false)
		covers(t, b, a, false)
	}
}

// TestL2EachOneCounts: one register (byte) that is not covered is enough, whatever the others are.
func TestL2EachOneCounts(t *testing.T) {
	var wide, narrow reg.State
	for i := range wide.Regs {
		wide.Regs[i], narrow.Regs[i] = num(1, 9), num(3, 4)
	}
	narrow.Stack[511] = true
	covers(t, wide, narrow, true)
	covers(t, narrow, wide, false)
	covers(t, reg.State{}, narrow, true)
	covers(t, narrow, reg.State{}, false)
	for i := range wide.Regs {
		more := narrow
		more.Regs[i] = num(3, 10)
		covers(t, wide, more, false)
	}
	wide.Stack[0] = true
	covers(t, wide, narrow, false)
}

// TestL2JoinsOfStatesCoverBoth: whatever they are, even with fields that their Kinds do not have.
func TestL2JoinsOfStatesCoverBoth(t *testing.T) {
	odd := []reg.Reg{{Kind: 7}, {Kind: -1, Map: 2}, {Kind: reg.Num, Num: s(1, 2), Map: 3, Lo: 1}, {Kind: reg.Ctx, Map: 3, Hi: 4}, {Kind: reg.Ctx, Map: 3, Lo: -4}, {Kind: reg.None, Map: 1}, {Kind: reg.Num, Num: s(9, 3)}, {Kind: reg.Stack, Lo: 4, Hi: -4}}
	all := append(regs(), odd...)
	for i, x := range all {
		for k, y := range all {
			var a, b reg.State
			a.Regs[i%11], b.Regs[i%11] = x, y
			a.Stack[i], a.Stack[k+100], b.Stack[i], b.Stack[k+200] = true, true, true, true
			j := a.Join(b)
			covers(t, j, a, true)
			covers(t, j, b, true)
		}
		if t.Failed() {
			return
		}
	}
}

func TestL3MoveByOneNumber(t *testing.T) {
	for i, p := range pointers(-16, 8) {
		moves(t, p, s(0, 0), false, p)
		moves(t, p, s(0, 0), true, p)
		moves(t, p, s(5, 5), false, pointers(-11, 13)[i])
		moves(t, p, s(5, 5), true, pointers(-21, 3)[i])
		moves(t, p, s(top-4, top-4), false, pointers(-21, 3)[i])
		moves(t, p, s(top-4, top-4), true, pointers(-11, 13)[i])
		moves(t, p, s(far-8, far-8), false, pointers(far-24, far)[i])
		stays(t, p, s(far-7, far-7), false)
		moves(t, p, s(far-16, far-16), true, pointers(-far, 24-far)[i])
		stays(t, p, s(far-15, far-15), true)
		moves(t, p, s(top-far+17, top-far+17), false, pointers(-far, 24-far)[i])
		stays(t, p, s(top-far+16, top-far+16), false)
		stays(t, p, s(1<<32-5, 1<<32-5), false)
		stays(t, p, s(1<<32, 1<<32), false)
		stays(t, p, s(1<<63, 1<<63), false)
		stays(t, p, s(1<<63, 1<<63), true)
	}
}

// TestL3MoveByOneFarNumber: as far as it may be, and one further.
func TestL3MoveByOneFarNumber(t *testing.T) {
	for i, p := range pointers(0, 0) {
		moves(t, p, s(far, far), false, pointers(far, far)[i])
		moves(t, p, s(far, far), true, pointers(-far, -far)[i])
		moves(t, p, s(top-far+1, top-far+1), false, pointers(-far, -far)[i])
		moves(t, p, s(top-far+1, top-far+1), true, pointers(far, far)[i])
		for _, down := range []bool{false, true} {
			stays(t, p, s(far+1, far+1), down)
			stays(t, p, s(top-far, top-far), down)
		}
	}
	for i, p := range pointers(far+1, far+1) {
		stays(t, p, s(0, 0), false)
		moves(t, p, s(1, 1), true, pointers(far, far)[i])
		moves(t, p, s(top, top), false, pointers(far, far)[i])
		stays(t, p, s(far+1, far+1), true)
	}
	for i, p := range pointers(-far, far) {
		moves(t, p, s(0, 0), true, pointers(-far, far)[i])
		stays(t, p, s(1, 1), true)
		stays(t, p, s(1, 1), false)
	}
}

func TestL3MoveBySpans(t *testing.T) {
	for i, p := range pointers(-16, 8) {
		moves(t, p, s(0, 8), false, pointers(-16, 16)[i])
		moves(t, p, s(3, 8), false, pointers(-13, 16)[i])
		moves(t, p, s(0, far-8), false, pointers(-16, far)[i])
		stays(t, p, s(0, far-7), false)
		stays(t, p, s(0, far+1), false)
		stays(t, p, s(0, top), false)
		stays(t, p, s(top-1, top), false)
		stays(t, p, s(top-16, top-8), false)
		for _, by := range []span.Span{s(0, 1), s(0, 8), s(3, 8), s(0, far), s(0, top), s(top-1, top)} {
			stays(t, p, by, true)
		}
	}
	for i, p := range pointers(-20, -10) {
		moves(t, p, s(far-1, far), false, pointers(far-21, far-10)[i])
		stays(t, p, s(far, far+1), false)
	}
	for i, p := range pointers(-far-2, -far) {
		moves(t, p, s(2, 5), false, pointers(-far, 5-far)[i])
		stays(t, p, s(1, 5), false)
	}
}

func TestL3MoveOfOthers(t *testing.T) {
	for _, r := range append(others(), reg.Reg{Kind: 7}, reg.Reg{Kind: -1}) {
		for _, by := range []span.Span{s(0, 0), s(1, 1), s(0, 8), s(top, top)} {
			stays(t, r, by, false)
			stays(t, r, by, true)
		}
	}
}

// edges are numbers around which a move begins or ends to be one.
func edges() []uint64 {
	return []uint64{0, 1, 2, 8, far - 9, far - 8, far - 7, far - 1, far, far + 1, 2 * far, 1<<31 - 1, 1 << 31, 1<<32 - 1, 1 << 32, 1<<63 - 1, 1 << 63, top - 2*far, top - far, top - far + 1, top - far + 2, top - 8, top}
}

// ends are where pointers begin or end, some of them further away than any may be.
func ends() []int {
	return []int{math.MinInt, math.MinInt + far, -2 * far, -far - 1, -far, -far + 1, -8, 0, 8, far - 8, far, far + 1, 2 * far, math.MaxInt - far, math.MaxInt}
}

// wordedMove is Move of a pointer as the chapter words it, with numbers that lose nothing.
func wordedMove(r reg.Reg, by span.Span, down bool) (reg.Reg, bool) {
	near := func(n *big.Int) bool { return n.CmpAbs(big.NewInt(far)) <= 0 }
	one := big.NewInt(int64(by.Lo))
	lo, hi := new(big.Int).Set(one), one
	switch {
	case by.Lo == by.Hi && near(one):
		if down {
			lo, hi = new(big.Int).Neg(one), new(big.Int).Neg(one)
		}
	case !down && by.Hi <= far:
		lo, hi = new(big.Int).SetUint64(by.Lo), new(big.Int).SetUint64(by.Hi)
	default:
		return reg.Reg{}, false
	}
	lo, hi = lo.Add(lo, big.NewInt(int64(r.Lo))), new(big.Int).Add(hi, big.NewInt(int64(r.Hi)))
	if !near(lo) || !near(hi) {
		return reg.Reg{}, false
	}
	r.Lo, r.Hi = int(lo.Int64()), int(hi.Int64())
	return r, true
}

func TestL3MoveAgainstTheWording(t *testing.T) {
	for i, lo := range ends() {
		for _, hi := range ends()[i:] {
			for _, p := range pointers(lo, hi) {
				for k, from := range edges() {
					for _, to := range edges()[k:] {
						for _, down := range []bool{false, true} {
							if want, ok := wordedMove(p, s(from, to), down); ok {
								moves(t, p, s(from, to), down, want)
							} else {
								stays(t, p, s(from, to), down)
							}
						}
					}
				}
			}
			if t.Failed() {
				return
			}
		}
	}
}

// TestL3MoveHasAllPlaces: each place of a pointer, moved by each number of a span, is one that the moved pointer has; and there are no others.
func TestL3MoveHasAllPlaces(t *testing.T) {
	for lo := -3; lo < 3; lo++ {
		for hi := lo; hi < 4; hi++ {
			for from := -4; from < 4; from++ {
				for to := from; to < 5; to++ {
					for _, down := range []bool{false, true} {
						places(t, lo, hi, from, to, down)
					}
				}
			}
		}
	}
}

func places(t *testing.T, lo, hi, from, to int, down bool) {
	t.Helper()
	by := s(uint64(from), uint64(to))
	p, ok := stack(lo, hi).Move(by, down)
	if want := from == to || !down && from >= 0; by.Right() && ok != want {
		t.Fatalf("%d to %d, by %v, %v: %v", lo, hi, by, down, ok)
	}
	if !ok {
		return
	}
	least, most := math.MaxInt, math.MinInt
	for at := lo; at <= hi; at++ {
		for n := from; n <= to; n++ {
			place := at + n
			if down {
				place = at - n
			}
			least, most = min(least, place), max(most, place)
		}
	}
	if p != stack(least, most) {
		t.Fatalf("%d to %d, by %v, %v: %v, want %d to %d", lo, hi, by, down, p, least, most)
	}
}

// TestL3MoveOfWiderOnes: a wider pointer, moved by a wider span, covers what is moved.
func TestL3MoveOfWiderOnes(t *testing.T) {
	for i, p := range pointers(-6, -2) {
		for lo := range uint64(5) {
			for hi := lo; hi < 9; hi++ {
				got, ok := p.Move(s(lo, hi), false)
				more, is := pointers(-8, 0)[i].Move(s(lo/2, hi+1), false)
				if !ok || !is || !covered(more, got) {
					t.Fatalf("%v by %d to %d: %v, %v; wider: %v, %v", p, lo, hi, got, ok, more, is)
				}
			}
		}
	}
}

// TestL3MoveBySpansThatAreNotRight: nothing is promised of them; no pointer moves by one.
func TestL3MoveBySpansThatAreNotRight(t *testing.T) {
	for k, hi := range edges() {
		for _, lo := range edges()[k+1:] {
			for _, p := range append(pointers(-8, 0), others()...) {
				stays(t, p, s(lo, hi), false)
				stays(t, p, s(lo, hi), true)
			}
		}
	}
}

func TestL3Within(t *testing.T) {
	for _, p := range pointers(-16, -8) {
		lies(t, p, 0, 8, -512, 0, -16, 0)
		leaves(t, p, 1, 8, -512, 0)
		lies(t, p, 1, 7, -512, 0, -15, 0)
		lies(t, p, -496, 8, -512, 0, -512, -496)
		leaves(t, p, -497, 8, -512, 0)
		leaves(t, p, 0, 9, -512, 0)
		lies(t, p, 8, 0, -512, 0, -8, 0)
		lies(t, p, 0, 0, -16, -8, -16, -8)
		leaves(t, p, 0, 0, -15, -8)
		leaves(t, p, 0, 0, -16, -9)
	}
	for _, p := range pointers(0, 0) {
		lies(t, p, 0, 8, 0, 8, 0, 8)
		lies(t, p, 3, 4, 0, 8, 3, 7)
		lies(t, p, 4, 4, 0, 8, 4, 8)
		leaves(t, p, 5, 4, 0, 8)
		leaves(t, p, -1, 4, 0, 8)
		leaves(t, p, 0, 1, 0, 0)
		lies(t, p, 0, 0, 0, 0, 0, 0)
		leaves(t, p, 0, 8, 8, 0)
	}
	for _, p := range pointers(0, 4) {
		lies(t, p, 0, 4, 0, 8, 0, 8)
		leaves(t, p, 0, 5, 0, 8)
		leaves(t, p, -1, 4, 0, 8)
		leaves(t, p, 1, 4, 0, 8)
	}
}

func TestL3WithinOfOthers(t *testing.T) {
	for _, r := range append(others(), reg.Reg{Kind: 7}, reg.Reg{Kind: -1}) {
		leaves(t, r, 0, 0, 0, 0)
		leaves(t, r, 0, 1, -512, 512)
		leaves(t, r, 1, 8, math.MinInt, math.MaxInt)
	}
}

// TestL3WithinFarAway: what is too great to be told is not within, and does not wrap round.
func TestL3WithinFarAway(t *testing.T) {
	for _, p := range pointers(-8, 8) {
		leaves(t, p, math.MaxInt, 8, -512, 0)
		leaves(t, p, math.MaxInt, 8, math.MinInt, math.MaxInt)
		leaves(t, p, math.MinInt, 8, math.MinInt, math.MaxInt)
		leaves(t, p, 0, math.MaxInt, math.MinInt, math.MaxInt)
		leaves(t, p, 8, math.MaxInt, -512, 0)
		lies(t, p, 0, math.MaxInt-8, -512, math.MaxInt, -8, math.MaxInt)
		lies(t, p, math.MinInt+8, 8, math.MinInt, 0, math.MinInt, math.MinInt+24)
		lies(t, p, math.MaxInt-16, 8, math.MinInt, math.MaxInt, math.MaxInt-24, math.MaxInt)
	}
	leaves(t, stack(math.MaxInt, math.MaxInt), 1, 0, math.MinInt, math.MaxInt)
	leaves(t, stack(math.MinInt, math.MinInt), -1, 0, math.MinInt, math.MaxInt)
	lies(t, stack(math.MaxInt, math.MaxInt), math.MinInt, 1, -1, 0, -1, 0)
}

// TestL3WithinAgainstTheWording, with numbers that lose nothing; of sizes below 0 too, of which it says nothing else.
func TestL3WithinAgainstTheWording(t *testing.T) {
	numbers := []int{math.MinInt, math.MinInt + 1, -513, -512, -9, -1, 0, 1, 8, 256, math.MaxInt - 1, math.MaxInt}
	for i, lo := range numbers {
		for _, hi := range numbers[i:] {
			for _, off := range numbers {
				for _, size := range numbers {
					for _, least := range numbers {
						for _, end := range numbers {
							againstTheWording(t, stack(lo, hi), off, size, least, end)
						}
					}
				}
			}
			if t.Failed() {
				return
			}
		}
	}
}

// againstTheWording adds by halves, of 32 bits each, whose sums an int64 always has.
func againstTheWording(t *testing.T, r reg.Reg, off, size, least, end int) {
	t.Helper()
	from, to := halves(r.Lo, off, 0), halves(r.Hi, off, size)
	got, last, ok := r.Within(off, size, least, end)
	a, b := halves(got, 0, 0), halves(last, 0, 0)
	inside := !from.below(halves(least, 0, 0)) && !halves(end, 0, 0).below(to) && from.fits() && to.fits()
	if ok != inside || ok && (a != from || b != to) || !ok && (got != 0 || last != 0) {
		t.Errorf("%v.Within(%d, %d, %d, %d): %d, %d, %v", r, off, size, least, end, got, last, ok)
	}
}

// half is upper * 2^32 + lower.
type half struct{ upper, lower int64 }

func halves(a, b, c int) half {
	upper := int64(a>>32) + int64(b>>32) + int64(c>>32)
	lower := int64(uint32(a)) + int64(uint32(b)) + int64(uint32(c))
	return half{upper + lower>>32, int64(uint32(lower))}
}

func (h half) below(g half) bool {
	return h.upper < g.upper || h.upper == g.upper && h.lower < g.lower
}

func (h half) fits() bool { return h.upper == int64(int32(h.upper)) }
