package shape_test

import (
	"bytes"
	"math"
	"slices"
	"testing"

	"swingbridge/api"
	"swingbridge/isa"
	"swingbridge/shape"
)

// Ops that have the same parts, and do the same with Dst, to base sixteen.
const (
	numberOps     = "\x04\x14\x24\x34\x44\x54\x64\x74\x94\xA4\xB4\xC4\x07\x17\x27\x37\x47\x57\x67\x77\x97\xA7\xB7\xC7" // Dst, Imm
	registerOps   = "\x0C\x1C\x2C\x3C\x4C\x5C\x6C\x7C\x9C\xAC\xBC\xCC\x0F\x1F\x2F\x3F\x4F\x5F\x6F\x7F\x9F\xAF\xBF\xCF" // Dst, Src
	negOps        = "\x84\x87"                                                                                         // Dst
	numberTests   = "\x15\x25\x35\x45\x55\x65\x75\xA5\xB5\xC5\xD5\x16\x26\x36\x46\x56\x66\x76\xA6\xB6\xC6\xD6"         // Dst, Off, Imm
	registerTests = "\x1D\x2D\x3D\x4D\x5D\x6D\x7D\xAD\xBD\xCD\xDD\x1E\x2E\x3E\x4E\x5E\x6E\x7E\xAE\xBE\xCE\xDE"         // Dst, Src, Off
	loads         = "\x61\x69\x71\x79"                                                                                 // Dst, Src, Off
	numberStores  = "\x62\x6A\x72\x7A"                                                                                 // Dst, Off, Imm
	stores        = "\x63\x6B\x73\x7B"                                                                                 // Dst, Src, Off

	haveDst   = numberOps + registerOps + negOps + numberTests + registerTests + loads + numberStores + stores
	haveSrc   = registerOps + registerTests + loads + stores
	writeDst  = numberOps + registerOps + negOps + loads
	allTests  = numberTests + registerTests
	allJumps  = allTests + "\x05"
	memoryOps = loads + numberStores + stores
)

func in(ops string, op uint8) bool { return bytes.IndexByte([]byte(ops), op) >= 0 }

func exit() api.Insn { return api.Insn{Op: 0x95} }
func mov() api.Insn  { return api.Insn{Op: 0xB7} }
func half() api.Insn { return api.Insn{Imm: 9} }

func ja(off int16) api.Insn   { return api.Insn{Op: 0x05, Off: off} }
func jeq(off int16) api.Insn  { return api.Insn{Op: 0x15, Off: off} }
func call(fn int32) api.Insn  { return api.Insn{Op: 0x85, Imm: fn} }
func wide(dst uint8) api.Insn { return api.Insn{Op: 0x18, Dst: dst, Imm: 5} }

func row(l ...api.Insn) []api.Insn { return l }

func movs(n int) []api.Insn { return slices.Repeat(row(mov()), n) }

func right(t *testing.T, l ...api.Insn) {
	t.Helper()
	if at, e := shape.Right(l); at != 0 || e != api.OK {
		t.Errorf("Right(%v): %d, %v", l, at, e)
	}
}

// wrong asks all calls: of what is not right nothing comes next, and jumps lead nowhere.
func wrong(t *testing.T, want int, l ...api.Insn) {
	t.Helper()
	if at, e := shape.Right(l); at != want || e != api.ErrCheck {
		t.Errorf("Right(%v): %d, %v, want %d", l, at, e, want)
	}
	nothing(t, l)
}

func refused(t *testing.T, l ...api.Insn) {
	t.Helper()
	if at, e := shape.Right(l); at != 0 || e != api.ErrArg {
		t.Errorf("Right(%v): %d, %v", l, at, e)
	}
	nothing(t, l)
}

func nothing(t *testing.T, l []api.Insn) {
	t.Helper()
	if got := shape.Targets(l); len(got) != 0 {
		t.Errorf("Targets(%v): %v", l, got)
	}
	for at := -1; at <= len(l); at++ {
		if got := shape.Follow(l, at); len(got) != 0 {
			t.Errorf("Follow(%v, %d): %v", l, at, got)
		}
	}
}

func targets(t *testing.T, l []api.Insn, want ...int) {
	t.Helper()
	if got := shape.Targets(l); !slices.Equal(got, want) {
		t.Errorf("Targets(%v): %v, want %v", l, got, want)
	}
}

func follow(t *testing.T, l []api.Insn, at int, want ...int) {
	t.Helper()
	if got := shape.Follow(l, at); !slices.Equal(got, want) {
		t.Errorf("Follow(%v, %d): %v, want %v", l, at, got, want)
	}
}

func TestF1ExamplesOfTheChapter(t *testing.T) {
	right(t, exit())
	wrong(t, 0, ja(1), exit())
}

func TestF1WhatEncodeRefuses(t *testing.T) {
	refused(t)
	refused(t, row()...)
	refused(t, api.Insn{})
	refused(t, half(), exit())
	refused(t, exit(), half())
	refused(t, wide(1))
	refused(t, wide(1), exit())
	refused(t, wide(1), wide(1), half(), exit())
	refused(t, api.Insn{Op: 0x18, Src: 1}, half(), exit())
	refused(t, api.Insn{Op: 0x18, Src: 2}, api.Insn{}, exit())
	refused(t, exit(), api.Insn{Op: 0x95, Imm: 1})
	refused(t, api.Insn{Op: 0x86, Imm: 1}, exit())
	refused(t, api.Insn{Op: 0x96}, exit())
	refused(t, api.Insn{Op: 0x06}, exit())
	refused(t, api.Insn{Op: 0xB7, Dst: 16}, exit())
	refused(t, api.Insn{Op: 0xBF, Src: 16}, exit())
	refused(t, api.Insn{Op: 0x85, Imm: 1, Off: 1}, exit())
}

// TestF1RefusedAheadOfWrong: what is wrong further ahead does not come first.
func TestF1RefusedAheadOfWrong(t *testing.T) {
	refused(t, api.Insn{Op: 0xB7, Dst: 11}, exit(), api.Insn{})
	refused(t, ja(-1), call(4), wide(10))
	refused(t, ja(-1), mov(), api.Insn{Op: 0xBF, Src: 16})
}

func TestF1HowMany(t *testing.T) {
	right(t, append(movs(511), exit())...)
	refused(t, append(movs(512), exit())...)
	wrong(t, 511, movs(512)...)
	refused(t, movs(513)...)
}

func TestF1Registers(t *testing.T) {
	for _, op := range []byte(haveDst + "\x18") {
		for d := range uint8(16) {
			l := row(mov(), api.Insn{Op: op, Dst: d}, exit())
			if op == 0x18 {
				l = slices.Insert(l, 2, half())
			}
			if d > 10 || d == 10 && (in(writeDst, op) || op == 0x18) {
				wrong(t, 1, l...)
			} else {
				right(t, l...)
			}
		}
	}
	for _, op := range []byte(haveSrc) {
		for s := range uint8(16) {
			l := row(mov(), api.Insn{Op: op, Src: s}, exit())
			if s > 10 {
				wrong(t, 1, l...)
			} else {
				right(t, l...)
			}
		}
	}
}

func TestF1WideOfAMap(t *testing.T) {
	for d := range uint8(16) {
		l := row(api.Insn{Op: 0x18, Dst: d, Src: 1, Imm: 3}, api.Insn{}, exit())
		if d >= 10 {
			wrong(t, 0, l...)
		} else {
			right(t, l...)
		}
	}
}

// TestF1HalvesSayNothing: whatever a half's Imm is, it is neither wrong, unless it is the last one, nor an Exit.
func TestF1HalvesSayNothing(t *testing.T) {
	for _, m := range []int32{0, 0x95, 0x05, 0x85, -1, math.MaxInt32, math.MinInt32} {
		right(t, wide(9), api.Insn{Imm: m}, exit())
		wrong(t, 1, wide(9), api.Insn{Imm: m})
	}
}

func TestF1Helpers(t *testing.T) {
	helpers := []int32{1, 2, 3, 5, 7, 9}
	tried := []int32{-9, 257, 1 << 16, 1<<24 + 1, math.MaxInt32, math.MinInt32, math.MinInt32 + 1}
	for m := int32(-2); m < 300; m++ {
		tried = append(tried, m)
	}
	for _, m := range tried {
		if slices.Contains(helpers, m) {
			right(t, call(m), exit())
		} else {
			wrong(t, 0, call(m), exit())
			wrong(t, 2, mov(), call(1), call(m), exit())
		}
	}
}

// TestF1NumbersOfOthers: Imm and Off are free where no helper is called and nothing jumps.
func TestF1NumbersOfOthers(t *testing.T) {
	for _, m := range []int32{0, 1, 4, -1, math.MaxInt32, math.MinInt32} {
		for _, op := range []byte(numberOps + numberTests + numberStores) {
			right(t, api.Insn{Op: op, Imm: m}, exit())
		}
		right(t, api.Insn{Op: 0x18, Imm: m}, half(), exit())
		right(t, api.Insn{Op: 0x18, Src: 1, Imm: m}, api.Insn{}, exit())
	}
	for _, o := range []int16{0, 1, -1, 512, math.MaxInt16, math.MinInt16} {
		for _, op := range []byte(memoryOps) {
			right(t, api.Insn{Op: op, Off: o}, exit())
		}
	}
}

func TestF1WhereJumpsLead(t *testing.T) {
	for _, op := range []byte(allJumps) {
		jump := func(off int16) api.Insn { return api.Insn{Op: op, Off: off} }
		for off := int16(-4); off < 8; off++ {
			l := row(mov(), mov(), jump(off), mov(), wide(1), half(), exit())
			if off < 0 || off == 2 || off > 3 {
				wrong(t, 2, l...)
			} else {
				right(t, l...)
			}
		}
		for _, off := range []int16{math.MinInt16, -513, 512, math.MaxInt16} {
			wrong(t, 1, mov(), jump(off), exit())
		}
		right(t, jump(0), exit())
		wrong(t, 0, jump(-1), exit())
		wrong(t, 2, wide(1), half(), jump(-2), exit())
	}
}

// TestF1FarJumps: the edges are the same from the first to the last of 512.
func TestF1FarJumps(t *testing.T) {
	l := append(movs(511), exit())
	l[0] = ja(510)
	right(t, l...)
	follow(t, l, 0, 511)
	targets(t, l, 511)
	l[0] = ja(511)
	wrong(t, 0, l...)
	l[0] = mov()
	l[510] = jeq(0)
	right(t, l...)
	l[510] = jeq(1)
	wrong(t, 510, l...)
}

// TestF1JumpsFromWhereNobodyComes: wrong is asked of each place, be it reached or not.
func TestF1JumpsFromWhereNobodyComes(t *testing.T) {
	wrong(t, 1, exit(), ja(1), exit())
	wrong(t, 1, exit(), call(4), exit())
	wrong(t, 1, exit(), api.Insn{Op: 0xB7, Dst: 10}, exit())
}

func TestF1TheLastOne(t *testing.T) {
	for _, op := range []byte(haveDst) {
		wrong(t, 0, api.Insn{Op: op})
		wrong(t, 1, exit(), api.Insn{Op: op})
	}
	wrong(t, 0, ja(0))
	wrong(t, 0, call(1))
	wrong(t, 2, exit(), call(1), call(1))
	wrong(t, 1, wide(1), half())
	wrong(t, 1, wide(1), api.Insn{})
	wrong(t, 2, exit(), api.Insn{Op: 0x18, Src: 1}, api.Insn{})
	wrong(t, 0, wide(10), half())
	right(t, exit(), exit())
}

func TestF1TheFirstOfSeveral(t *testing.T) {
	faults := row(api.Insn{Op: 0xB7, Dst: 10}, api.Insn{Op: 0x7B, Src: 11}, call(4), ja(-1), jeq(512))
	for _, first := range faults {
		for _, second := range faults {
			wrong(t, 1, mov(), first, mov(), second)
			wrong(t, 2, mov(), mov(), first, second, exit())
			wrong(t, 0, first, second, first)
		}
	}
}

func TestF2Targets(t *testing.T) {
	targets(t, row(exit()))
	targets(t, row(mov(), call(1), wide(1), half(), exit()))
	targets(t, row(ja(0), exit()), 1)
	targets(t, row(jeq(3), jeq(2), ja(1), exit(), exit()), 4)
	targets(t, row(jeq(4), jeq(2), jeq(0), mov(), exit(), exit()), 3, 4, 5)
	targets(t, row(exit(), ja(1), mov(), exit()), 3)
	targets(t, row(jeq(2), wide(1), half(), jeq(0), exit()), 3, 4)
	targets(t, row(jeq(0), jeq(0), jeq(0), exit()), 1, 2, 3)
	for _, op := range []byte(allJumps) {
		targets(t, row(api.Insn{Op: op, Off: 1}, mov(), exit()), 2)
	}
	for _, op := range []byte(memoryOps) {
		targets(t, row(api.Insn{Op: op, Off: 1}, mov(), exit()))
	}
}

func TestF2FollowByKind(t *testing.T) {
	for _, op := range []byte(writeDst + memoryOps) {
		follow(t, row(mov(), api.Insn{Op: op}, mov(), exit()), 1, 2)
	}
	for _, op := range []byte(memoryOps) {
		follow(t, row(mov(), api.Insn{Op: op, Off: 1}, mov(), exit()), 1, 2)
	}
	for _, op := range []byte(allTests) {
		l := row(mov(), api.Insn{Op: op, Off: 2}, mov(), exit(), exit())
		follow(t, l, 1, 2, 4)
		l[1].Off = 1
		follow(t, l, 1, 2, 3)
		l[1].Off = 0
		follow(t, l, 1, 2)
	}
	l := row(ja(2), ja(0), call(1), wide(1), half(), exit(), exit())
	follow(t, l, 0, 3)
	follow(t, l, 1, 2)
	follow(t, l, 2, 3)
	follow(t, l, 3, 5)
	follow(t, l, 5)
	follow(t, l, 6)
	follow(t, row(api.Insn{Op: 0x18, Src: 1}, api.Insn{}, exit()), 0, 2)
	follow(t, row(wide(1), half(), wide(1), half(), exit()), 0, 2)
}

func TestF2FollowWhereNoneStands(t *testing.T) {
	l := row(wide(1), half(), jeq(2), wide(1), api.Insn{}, exit())
	follow(t, l, 1)
	follow(t, l, 4)
	for _, at := range []int{-1, -2, 6, 7, 512, math.MaxInt, math.MaxInt - 1, math.MinInt, math.MinInt + 1} {
		follow(t, l, at)
	}
}

// judged is Right of those that Encode takes, in the chapter's words: by Ops alone, with each place's own wrongs.
func judged(l []api.Insn) (int, api.Errno) {
	halves := map[int]int{}
	for at, i := range l {
		if i.Op == 0x18 {
			halves[at+1] = 1
		}
	}
	for at, i := range l {
		to := at + 1 + int(i.Off)
		switch {
		case i.Dst > 10, i.Src > 10,
			i.Dst == 10 && (in(writeDst, i.Op) || i.Op == 0x18),
			i.Op == 0x85 && !slices.Contains([]int32{1, 2, 3, 5, 7, 9}, i.Imm),
			in(allJumps, i.Op) && (i.Off < 0 || to >= len(l) || halves[to] == 1),
			at == len(l)-1 && i.Op != 0x95:
			return at, api.ErrCheck
		}
	}
	return 0, api.OK
}

// drawer draws rows of instructions that Encode takes, always the same ones.
type drawer uint32

func (d *drawer) below(n int) int {
	*d = *d*1664525 + 1013904223
	return int(uint32(*d) >> 8 % uint32(n))
}

func (d *drawer) insn() api.Insn {
	ops := haveDst + allTests + "\x05\x85\x95\x18\x18\x18\x18\x18\x18\x18\x18"
	i := api.Insn{Op: ops[d.below(len(ops))]}
	if in(haveDst+"\x18", i.Op) {
		i.Dst = uint8(d.below(8))
		if d.below(30) == 0 {
			i.Dst = uint8(d.below(16))
		}
	}
	if in(haveSrc, i.Op) && d.below(8) == 0 {
		i.Src = uint8(d.below(12))
	}
	if in(allJumps, i.Op) {
		i.Off = int16(d.below(5))
		if d.below(30) == 0 {
			i.Off = int16(d.below(40) - 20)
		}
	}
	if i.Op == 0x85 {
		i.Imm = []int32{1, 2, 3, 5, 7, 9, 4}[d.below(7)]
	}
	return i
}

func (d *drawer) row() []api.Insn {
	var l []api.Insn
	for range d.below(12) {
		i := d.insn()
		l = append(l, i)
		if i.Op == 0x18 {
			l = append(l, half())
		}
	}
	if d.below(12) > 0 || len(l) == 0 {
		l = append(l, exit())
	}
	return l
}

func TestF1RowsThatAreDrawn(t *testing.T) {
	d, oks := drawer(6), 0
	for range 100000 {
		l := d.row()
		if _, e := isa.Encode(l); e != api.OK {
			t.Fatalf("Encode(%v): %v", l, e)
		}
		at, e := shape.Right(l)
		if a, b := judged(l); at != a || e != b {
			t.Fatalf("Right(%v): %d, %v, want %d, %v", l, at, e, a, b)
		}
		if e == api.OK {
			oks++
		} else {
			nothing(t, l)
		}
	}
	if oks < 1000 || oks > 90000 {
		t.Errorf("%d of the rows are right", oks)
	}
}

// TestF2RowsThatAreDrawn: whoever follows goes forward, to instructions, and goes on but at an Exit, so that one is reached.
func TestF2RowsThatAreDrawn(t *testing.T) {
	d := drawer(7)
	for range 50000 {
		l := d.row()
		if _, e := shape.Right(l); e != api.OK {
			continue
		}
		want := map[int]int{}
		for at, i := range l {
			next := shape.Follow(l, at)
			jump, back := in(allJumps, i.Op), at > 0 && l[at-1].Op == 0x18
			if ends := i.Op == 0x95 || back; ends != (len(next) == 0) {
				t.Fatalf("Follow(%v, %d): %v", l, at, next)
			}
			if jump {
				want[at+1+int(i.Off)] = 1
			}
			if jump && !slices.Contains(next, at+1+int(i.Off)) || len(next) > 2 || len(next) == 2 && (!jump || next[0] >= next[1]) {
				t.Fatalf("Follow(%v, %d): %v", l, at, next)
			}
			for _, to := range next {
				if to <= at || to >= len(l) || l[to-1].Op == 0x18 || !jump && to > at+2 {
					t.Fatalf("Follow(%v, %d): %v", l, at, next)
				}
			}
		}
		got := shape.Targets(l)
		for n, at := range got {
			if want[at] != 1 || n > 0 && got[n-1] >= at {
				t.Fatalf("Targets(%v): %v", l, got)
			}
		}
		if len(got) != len(want) {
			t.Fatalf("Targets(%v): %v", l, got)
		}
	}
}

func TestF2NothingIsSharedOrChanged(t *testing.T) {
	l := row(jeq(3), jeq(2), wide(1), half(), exit(), jeq(0), exit())
	given := slices.Clone(l)
	first, again := shape.Targets(l), shape.Targets(l)
	next, anew := shape.Follow(l, 0), shape.Follow(l, 0)
	right(t, l...)
	if !slices.Equal(l, given) {
		t.Fatalf("the instructions are changed: %v", l)
	}
	clear(l)
	clear(again)
	clear(anew)
	if !slices.Equal(first, []int{4, 6}) || !slices.Equal(next, []int{1, 4}) {
		t.Errorf("the places hang on others: %v, %v", first, next)
	}
}
