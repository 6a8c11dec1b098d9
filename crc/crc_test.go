package crc_test

import (
	"bytes"
	"hash/crc32"
	"math"
	"testing"

	"swingbridge/crc"
)

// bitwise is More as the chapter words it, one bit at a time.
func bitwise(sum uint32, b []byte) uint32 {
	c := ^sum
	for _, x := range b {
		c ^= uint32(x)
		for range 8 {
			low := c & 1
			c >>= 1
			if low == 1 {
				c ^= 0xEDB88320
			}
		}
	}
	return ^c
}

// sumsAhead are all bits, none, each alone, each alone missing, and some in between.
func sumsAhead() []uint32 {
	out := []uint32{0, math.MaxUint32, 0xEDB88320, 0xCBF43926, 0x12345678, 0x55555555, 0xAAAAAAAA}
	for i := range 32 {
		out = append(out, 1<<i, ^(uint32(1) << i))
	}
	return out
}

// mixed is bytes in which no short pattern comes again.
func mixed(n int) []byte {
	out := make([]byte, n)
	c := uint32(1)
	for i := range out {
		c = c*1664525 + 1013904223
		out[i] = byte(c >> 24)
	}
	return out
}

func sums(t *testing.T, b []byte, want uint32) {
	t.Helper()
	if got := crc.Sum(b); got != want {
		t.Errorf("Sum of %d bytes: %08X, want %08X", len(b), got, want)
	}
}

func TestB1ExampleOfTheChapter(t *testing.T) {
	sums(t, []byte("123456789"), 0xCBF43926)
}

func TestB1KnownSums(t *testing.T) {
	sums(t, []byte("a"), 0xE8B7BE43)
	sums(t, []byte("abc"), 0x352441C2)
	sums(t, []byte("message digest"), 0x20159D7F)
	sums(t, []byte("abcdefghijklmnopqrstuvwxyz"), 0x4C2750BD)
	sums(t, make([]byte, 32), 0x190A55AD)
	sums(t, bytes.Repeat([]byte{0xFF}, 32), 0xFF6CAB0B)
}

func TestB1NoBytes(t *testing.T) {
	sums(t, nil, 0)
	sums(t, []byte{}, 0)
	for _, sum := range sumsAhead() {
		if a, b := crc.More(sum, nil), crc.More(sum, []byte{}); a != sum || b != sum {
			t.Errorf("More of %08X, of no bytes: %08X, %08X", sum, a, b)
		}
	}
}

func TestB1OneByteBehindAnySum(t *testing.T) {
	for x := range 256 {
		b := []byte{byte(x)}
		sums(t, b, bitwise(0, b))
		for _, sum := range sumsAhead() {
			if got, want := crc.More(sum, b), bitwise(sum, b); got != want {
				t.Errorf("More of %08X, of byte %d: %08X, want %08X", sum, x, got, want)
			}
		}
	}
}

func TestB1ManyBytesBehindAnySum(t *testing.T) {
	for _, n := range []int{2, 3, 4, 5, 7, 8, 16, 511, 512, 513} {
		b := mixed(n)
		for _, sum := range sumsAhead() {
			if got, want := crc.More(sum, b), bitwise(sum, b); got != want {
				t.Errorf("More of %08X, of %d bytes: %08X, want %08X", sum, n, got, want)
			}
		}
	}
}

func TestB1IsThatOfIEEE(t *testing.T) {
	all := mixed(1 << 16)
	for n := range 600 {
		sums(t, all[:n], crc32.ChecksumIEEE(all[:n]))
	}
	sums(t, all, crc32.ChecksumIEEE(all))
}

func TestB1InPieces(t *testing.T) {
	b := mixed(67)
	want := crc.Sum(b)
	for i := range len(b) + 1 {
		for j := i; j <= len(b); j++ {
			got := crc.More(crc.More(crc.Sum(b[:i]), b[i:j]), b[j:])
			if got != want {
				t.Errorf("cut at %d and %d: %08X, want %08X", i, j, got, want)
			}
		}
	}
	byByte := uint32(0)
	for i := range b {
		byByte = crc.More(byByte, b[i:i+1])
	}
	if byByte != want {
		t.Errorf("byte by byte: %08X, want %08X", byByte, want)
	}
}

func TestB1OneBitIsSeen(t *testing.T) {
	b := mixed(64)
	sum := crc.Sum(b)
	for bit := range len(b) * 8 {
		b[bit/8] ^= 1 << (bit % 8)
		if crc.Sum(b) == sum {
			t.Errorf("bit %d is not seen", bit)
		}
		b[bit/8] ^= 1 << (bit % 8)
	}
}

func TestB1BytesStayAsTheyWere(t *testing.T) {
	whole := mixed(96)
	handed := whole[16:64] // what stands around it, also behind its length, stays too
	crc.Sum(handed)
	crc.More(0x12345678, handed)
	if !bytes.Equal(whole, mixed(96)) {
		t.Error("bytes were changed")
	}
}

func TestB1NothingIsKept(t *testing.T) {
	b := []byte("123456789")
	first := crc.Sum(b)
	crc.More(first, mixed(100))
	clear(b)
	crc.Sum(b)
	sums(t, []byte("123456789"), first)
}
