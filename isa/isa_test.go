package isa_test

import (
	"bytes"
	"encoding/binary"
	"math"
	"slices"
	"testing"

	"swingbridge/api"
	"swingbridge/isa"
)

// row is Ops that have the same parts: of d, s, o and i those letters that are named.
type row struct {
	parts string
	ops   []byte
}

// rows is the chapter's list, written out to base sixteen.
func rows() []row {
	return []row{
		{"di", []byte{0x04, 0x14, 0x24, 0x34, 0x44, 0x54, 0x64, 0x74, 0x94, 0xA4, 0xB4, 0xC4}},
		{"ds", []byte{0x0C, 0x1C, 0x2C, 0x3C, 0x4C, 0x5C, 0x6C, 0x7C, 0x9C, 0xAC, 0xBC, 0xCC}},
		{"di", []byte{0x07, 0x17, 0x27, 0x37, 0x47, 0x57, 0x67, 0x77, 0x97, 0xA7, 0xB7, 0xC7}},
		{"ds", []byte{0x0F, 0x1F, 0x2F, 0x3F, 0x4F, 0x5F, 0x6F, 0x7F, 0x9F, 0xAF, 0xBF, 0xCF}},
		{"d", []byte{0x84, 0x87}},
		{"o", []byte{0x05}},
		{"i", []byte{0x85}},
		{"", []byte{0x95}},
		{"doi", []byte{0x15, 0x25, 0x35, 0x45, 0x55, 0x65, 0x75, 0xA5, 0xB5, 0xC5, 0xD5}},
		{"dso", []byte{0x1D, 0x2D, 0x3D, 0x4D, 0x5D, 0x6D, 0x7D, 0xAD, 0xBD, 0xCD, 0xDD}},
		{"doi", []byte{0x16, 0x26, 0x36, 0x46, 0x56, 0x66, 0x76, 0xA6, 0xB6, 0xC6, 0xD6}},
		{"dso", []byte{0x1E, 0x2E, 0x3E, 0x4E, 0x5E, 0x6E, 0x7E, 0xAE, 0xBE, 0xCE, 0xDE}},
		{"dso", []byte{0x61, 0x69, 0x71, 0x79}},
		{"doi", []byte{0x62, 0x6A, 0x72, 0x7A}},
		{"dso", []byte{0x63, 0x6B, 0x73, 0x7B}},
		{"dsi", []byte{0x18}},
	}
}

// partsOf is the parts by Op; nothing stands there of an Op that is not known.
func partsOf() map[byte]string {
	out := map[byte]string{}
	for _, r := range rows() {
		for _, op := range r.ops {
			out[op] = r.parts
		}
	}
	return out
}

// isKnown is Known as the chapter's list has it.
func isKnown(list map[byte]string, i api.Insn) bool {
	parts, ok := list[i.Op]
	has := func(letter byte) bool { return bytes.IndexByte([]byte(parts), letter) >= 0 }
	switch {
	case !ok, i.Dst > 15, i.Src > 15, i.Op == 0x18 && i.Src > 1:
		return false
	case i.Dst != 0 && !has('d'), i.Src != 0 && !has('s'), i.Off != 0 && !has('o'), i.Imm != 0 && !has('i'):
		return false
	}
	return true
}

// drawn is eight bytes as the chapter words them, with the library's own means.
func drawn(i api.Insn) []byte {
	b := []byte{i.Op, i.Src<<4 | i.Dst}
	b = binary.LittleEndian.AppendUint16(b, uint16(i.Off))
	return binary.LittleEndian.AppendUint32(b, uint32(i.Imm))
}

// everyKind is every Op, with all edges of its parts against each other.
func everyKind(yield func(api.Insn) bool) {
	registers := []uint8{0, 1, 2, 10, 15, 16, 17, 31, 32, 128, 240, 255}
	for op := range 256 {
		for _, d := range registers {
			for _, s := range registers {
				for _, o := range []int16{0, 1, -1, 0x0100, math.MaxInt16, math.MinInt16} {
					for _, m := range []int32{0, 1, -1, 0x01000000, math.MaxInt32, math.MinInt32} {
						if !yield(api.Insn{Op: uint8(op), Dst: d, Src: s, Off: o, Imm: m}) {
							return
						}
					}
				}
			}
		}
	}
}

func decodes(t *testing.T, b []byte, want ...api.Insn) {
	t.Helper()
	if l, e := isa.Decode(b); e != api.OK || !slices.Equal(l, want) {
		t.Errorf("Decode(% x): %v, %v, want %v", b, l, e, want)
	}
	if got, e := isa.Encode(want); e != api.OK || !bytes.Equal(got, b) {
		t.Errorf("Encode(%v): % x, %v, want % x", want, got, e, b)
	}
}

// refuses hands over l as it is, and as bytes.
func refuses(t *testing.T, l ...api.Insn) {
	t.Helper()
	if b, e := isa.Encode(l); e != api.ErrArg || b != nil {
		t.Errorf("Encode(%v): % x, %v", l, b, e)
	}
	var b []byte
	for _, i := range l {
		b = append(b, drawn(i)...)
	}
	if got, e := isa.Decode(b); e != api.ErrForm || got != nil {
		t.Errorf("Decode(% x): %v, %v", b, got, e)
	}
}

func exits(n int) []api.Insn { return slices.Repeat([]api.Insn{{Op: 0x95}}, n) }

func TestE1KnownAsTheChapterLists(t *testing.T) {
	list := partsOf()
	if len(list) != 110 {
		t.Fatalf("%d Ops are listed", len(list))
	}
	for i := range everyKind {
		if want := isKnown(list, i); isa.Known(i) != want {
			t.Fatalf("Known(%+v): %v", i, !want)
		}
	}
}

func TestE1KnownByNames(t *testing.T) {
	for _, i := range []api.Insn{
		{Op: api.ClassALU | api.Add, Dst: 15, Imm: -1},
		{Op: api.ClassALU64 | api.Arsh | api.SrcReg, Dst: 15, Src: 15},
		{Op: api.ClassALU64 | api.Neg, Dst: 1},
		{Op: api.ClassJMP | api.Ja, Off: -1},
		{Op: api.ClassJMP | api.Call, Imm: -1},
		{Op: api.ClassJMP | api.Exit},
		{Op: api.ClassJMP32 | api.Jset | api.SrcReg, Dst: 1, Src: 2, Off: 3},
		{Op: api.ClassLDX | api.Mem | api.SizeB, Dst: 1, Src: 2, Off: 3},
		{Op: api.ClassST | api.Mem | api.SizeDW, Dst: 1, Off: 3, Imm: 4},
		{Op: api.ClassSTX | api.Mem | api.SizeH, Dst: 1, Src: 2, Off: 3},
		{Op: api.Wide, Dst: 1, Imm: 4},
		{Op: api.Wide, Dst: 1, Src: api.WideMap, Imm: 4},
	} {
		if !isa.Known(i) {
			t.Errorf("Known(%+v): false", i)
		}
	}
}

func TestE1KnownOfASecondHalf(t *testing.T) {
	for _, m := range []int32{0, 1, -1} {
		if isa.Known(api.Insn{Imm: m}) {
			t.Errorf("a second half of %d is known by itself", m)
		}
	}
}

func TestE1WideIsByOpAlone(t *testing.T) {
	for i := range everyKind {
		if want := i.Op == 0x18; isa.Wide(i) != want {
			t.Fatalf("Wide(%+v): %v", i, !want)
		}
	}
}

func TestE2ExampleOfTheChapter(t *testing.T) {
	decodes(t, []byte{0x95, 0, 0, 0, 0, 0, 0, 0}, api.Insn{Op: api.ClassJMP | api.Exit})
}

func TestE2WhereThePartsStand(t *testing.T) {
	decodes(t, []byte{0x7B, 0x2F, 0x34, 0x12, 0, 0, 0, 0}, api.Insn{Op: 0x7B, Dst: 15, Src: 2, Off: 0x1234})
	decodes(t, []byte{0x7B, 0xF2, 0xFE, 0xFF, 0, 0, 0, 0}, api.Insn{Op: 0x7B, Dst: 2, Src: 15, Off: -2})
	decodes(t, []byte{0x72, 0x01, 0x00, 0x80, 0x78, 0x56, 0x34, 0x12}, api.Insn{Op: 0x72, Dst: 1, Off: math.MinInt16, Imm: 0x12345678})
	decodes(t, []byte{0x72, 0x01, 0xFF, 0x7F, 0xFD, 0xFF, 0xFF, 0xFF}, api.Insn{Op: 0x72, Dst: 1, Off: math.MaxInt16, Imm: -3})
	decodes(t, []byte{0x85, 0, 0, 0, 0x00, 0x00, 0x00, 0x80}, api.Insn{Op: 0x85, Imm: math.MinInt32})
	decodes(t, []byte{0x85, 0, 0, 0, 0xFF, 0xFF, 0xFF, 0x7F}, api.Insn{Op: 0x85, Imm: math.MaxInt32})
	decodes(t, []byte{0x85, 0, 0, 0, 0x80, 0x81, 0x82, 0x03}, api.Insn{Op: 0x85, Imm: 0x03828180})
	decodes(t, []byte{0x05, 0, 0x80, 0x01, 0, 0, 0, 0}, api.Insn{Op: 0x05, Off: 0x0180})
}

func TestE2EveryKind(t *testing.T) {
	list := partsOf()
	for i := range everyKind {
		if i.Op == 0x18 {
			continue
		}
		known := isKnown(list, i)
		if b, e := isa.Encode([]api.Insn{i}); known && (e != api.OK || !bytes.Equal(b, drawn(i))) || !known && (e != api.ErrArg || b != nil) {
			t.Fatalf("Encode(%+v): % x, %v", i, b, e)
		}
		if i.Dst > 15 || i.Src > 15 {
			continue
		}
		if l, e := isa.Decode(drawn(i)); known && (e != api.OK || len(l) != 1 || l[0] != i) || !known && (e != api.ErrForm || l != nil) {
			t.Fatalf("Decode(% x): %v, %v", drawn(i), l, e)
		}
	}
}

func TestE2Wide(t *testing.T) {
	number := api.Insn{Op: 0x18, Dst: 3, Imm: -2}
	table := api.Insn{Op: 0x18, Dst: 15, Src: 1, Imm: math.MaxInt32}
	for _, m := range []int32{0, 1, -1, math.MaxInt32, math.MinInt32} {
		decodes(t, slices.Concat(drawn(number), drawn(api.Insn{Imm: m})), number, api.Insn{Imm: m})
		if m != 0 {
			refuses(t, table, api.Insn{Imm: m})
		}
	}
	decodes(t, slices.Concat(drawn(table), make([]byte, 8)), table, api.Insn{})
	for s := range uint8(14) {
		refuses(t, api.Insn{Op: 0x18, Src: s + 2}, api.Insn{})
	}
	refuses(t, api.Insn{Op: 0x18, Off: 1}, api.Insn{})
}

func TestE2WideWithoutARightHalf(t *testing.T) {
	exit := api.Insn{Op: 0x95}
	for _, s := range []uint8{0, 1} {
		wide := api.Insn{Op: 0x18, Src: s}
		refuses(t, wide)
		refuses(t, exit, wide)
		refuses(t, wide, exit)
		refuses(t, wide, wide)
		refuses(t, wide, wide, api.Insn{})
		refuses(t, wide, api.Insn{Op: 1})
		refuses(t, wide, api.Insn{Dst: 1})
		refuses(t, wide, api.Insn{Src: 1})
		refuses(t, wide, api.Insn{Off: 1})
		refuses(t, wide, api.Insn{}, wide)
	}
}

func TestE2HalvesWithoutAWide(t *testing.T) {
	exit, wide, half := api.Insn{Op: 0x95}, api.Insn{Op: 0x18}, api.Insn{Imm: 5}
	refuses(t, half)
	refuses(t, half, exit)
	refuses(t, exit, half)
	refuses(t, wide, half, half)
	refuses(t, wide, half, exit, half)
	decodes(t, slices.Concat(drawn(wide), drawn(half), drawn(wide), drawn(half), drawn(exit)), wide, half, wide, half, exit)
}

func TestE2RegistersOfAHalf(t *testing.T) {
	for _, half := range []api.Insn{{Dst: 16}, {Src: 16}, {Dst: 255, Src: 255}} {
		if b, e := isa.Encode([]api.Insn{{Op: 0x18}, half}); e != api.ErrArg || b != nil {
			t.Errorf("Encode with %+v: % x, %v", half, b, e)
		}
	}
}

func TestE2OneWrongAmongOthers(t *testing.T) {
	for n := 1; n < 6; n++ {
		for at := range n {
			l := exits(n)
			l[at] = api.Insn{Op: 0x95, Imm: 1}
			refuses(t, l...)
		}
	}
}

func TestE2HowMany(t *testing.T) {
	refuses(t)
	if b, e := isa.Encode([]api.Insn{}); e != api.ErrArg || b != nil {
		t.Errorf("Encode of none: % x, %v", b, e)
	}
	if l, e := isa.Decode([]byte{}); e != api.ErrForm || l != nil {
		t.Errorf("Decode of none: %v, %v", l, e)
	}
	wide := []api.Insn{{Op: 0x18}, {Imm: 1}}
	all := bytes.Repeat([]byte{0x95, 0, 0, 0, 0, 0, 0, 0}, api.MaxInsns)
	decodes(t, all[:8*511], exits(511)...)
	decodes(t, all, exits(512)...)
	refuses(t, exits(513)...)
	refuses(t, exits(4096)...)
	decodes(t, slices.Concat(all[:8*510], drawn(wide[0]), drawn(wide[1])), append(exits(510), wide...)...)
	refuses(t, append(exits(511), wide...)...)
	refuses(t, append(exits(511), wide[0])...)
	refuses(t, append(exits(511), api.Insn{})...)
}

func TestE2BytesThatAreNoEights(t *testing.T) {
	all := bytes.Repeat([]byte{0x95, 0, 0, 0, 0, 0, 0, 0}, api.MaxInsns+1)
	for _, whole := range []int{0, 8, 16, 8 * 511, 8 * 512} {
		for more := 1; more < 8; more++ {
			if l, e := isa.Decode(all[:whole+more]); e != api.ErrForm || l != nil {
				t.Errorf("Decode of %d bytes: %d, %v", whole+more, len(l), e)
			}
		}
	}
	wide := slices.Concat(drawn(api.Insn{Op: 0x18}), make([]byte, 8))
	for n := 1; n < 16; n++ {
		if l, e := isa.Decode(wide[:n]); e != api.ErrForm || l != nil {
			t.Errorf("Decode of %d bytes of a wide one: %v, %v", n, l, e)
		}
	}
}

// TestE2OneRowOfBytesEach: whatever bytes decode are those to which their instructions are encoded.
func TestE2OneRowOfBytesEach(t *testing.T) {
	var ops []byte
	for _, r := range rows() {
		ops = append(ops, r.ops...)
	}
	c, decoded := uint32(7), 0
	draw := func(n uint32) uint32 {
		c = c*1664525 + 1013904223
		return c >> 8 % n
	}
	for range 200000 {
		b := make([]byte, 8*(1+draw(3)))
		for at := 0; at < len(b); at += 8 {
			b[at] = append(ops, 0)[draw(uint32(len(ops)+1))]
			b[at+1+int(draw(7))] = byte(draw(256))
		}
		l, e := isa.Decode(b)
		if e != api.OK {
			continue
		}
		decoded++
		if got, e := isa.Encode(l); e != api.OK || !bytes.Equal(got, b) {
			t.Fatalf("Encode of what % x decodes to: % x, %v", b, got, e)
		}
	}
	if decoded < 1000 {
		t.Errorf("only %d rows of bytes decoded", decoded)
	}
}

func TestE2NothingIsSharedOrChanged(t *testing.T) {
	given := slices.Concat(drawn(api.Insn{Op: 0x18, Imm: 5}), drawn(api.Insn{Imm: 6}), drawn(api.Insn{Op: 0x95}))
	b := slices.Clone(given)
	l, _ := isa.Decode(b)
	again, _ := isa.Decode(b)
	if !bytes.Equal(b, given) || !slices.Equal(l, again) {
		t.Errorf("Decode changed its bytes, or its mind: % x, %v, %v", b, l, again)
	}
	clear(b)
	clear(again)
	want := []api.Insn{{Op: 0x18, Imm: 5}, {Imm: 6}, {Op: 0x95}}
	if !slices.Equal(l, want) {
		t.Errorf("the instructions hang on others: %v", l)
	}
	first, _ := isa.Encode(l)
	second, _ := isa.Encode(l)
	if !slices.Equal(l, want) || !bytes.Equal(first, second) {
		t.Errorf("Encode changed its instructions, or its mind: %v, % x, % x", l, first, second)
	}
	clear(l)
	clear(second)
	if !bytes.Equal(first, given) {
		t.Errorf("the bytes hang on others: % x", first)
	}
}
