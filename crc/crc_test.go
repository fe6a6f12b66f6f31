package crc_test

import (
	"bytes"
	"hash/crc32"
	"math"
	"testing"

	"locksmith/crc"
)

// The calls stand with the signatures that the chapter lists.
var (
	_ func([]byte) uint32         = crc.Sum
	_ func(uint32, []byte) uint32 = crc.More
)

// known are sums worked out elsewhere.
var known = []struct {
	what string
	b    []byte
	want uint32
}{
	{"123456789", []byte("123456789"), 0xcbf43926},
	{"nil", nil, 0},
	{"an empty list", []byte{}, 0},
	{"one byte, 0", []byte{0}, 0xd202ef8d},
	{"one byte, 1", []byte{1}, 0xa505df1b},
	{"one byte, 128", []byte{128}, 0x3fba6cad},
	{"one byte, 255", []byte{255}, 0xff000000},
	{"a", []byte("a"), 0xe8b7be43},
	{"abc", []byte("abc"), 0x352441c2},
	{"four times 0", make([]byte, 4), 0x2144df1c},
	{"four times 255", bytes.Repeat([]byte{255}, 4), 0xffffffff},
	{"32 times 0", make([]byte, 32), 0x190a55ad},
	{"32 times 255", bytes.Repeat([]byte{255}, 32), 0xff6cab0b},
	{"all byte values", everyByte(), 0x29058c73},
	{"a pangram", []byte("The quick brown fox jumps over the lazy dog"), 0x414fa339},
}

// everyByte answers the 256 byte values in their order.
func everyByte() []byte {
	b := make([]byte, 256)
	for i := range b {
		b[i] = byte(i)
	}
	return b
}

// mixed answers n bytes in no plain order.
func mixed(n int) []byte {
	b := make([]byte, n)
	state := uint32(n) + 1
	for i := range b {
		state = state*1664525 + 1013904223
		b[i] = byte(state >> 24)
	}
	return b
}

func TestSumOfKnownBytes(t *testing.T) {
	for _, c := range known {
		if got := crc.Sum(c.b); got != c.want {
			t.Errorf("2.1: Sum of %s: %08x, want %08x", c.what, got, c.want)
		}
	}
}

func TestSumOfEachByte(t *testing.T) {
	for value := range 256 {
		b := []byte{byte(value)}
		if got, want := crc.Sum(b), crc32.ChecksumIEEE(b); got != want {
			t.Errorf("2.1: Sum of %x: %08x, want %08x", b, got, want)
		}
	}
}

func TestSumOfLengths(t *testing.T) {
	for _, n := range []int{2, 3, 4, 5, 7, 8, 9, 15, 16, 17, 63, 64, 65, 255, 256, 257, 511, 512, 4096, 65535, 65536, 1 << 20} {
		b := mixed(n)
		if got, want := crc.Sum(b), crc32.ChecksumIEEE(b); got != want {
			t.Errorf("2.1: Sum of %d bytes: %08x, want %08x", n, got, want)
		}
	}
}

func TestMoreFromNoneIsSum(t *testing.T) {
	for _, c := range known {
		if got := crc.More(0, c.b); got != c.want {
			t.Errorf("2.1: More(0, %s): %08x, want %08x", c.what, got, c.want)
		}
	}
}

// TestMoreOfTwoParts: wherever the bytes are cut, ahead of the first and
// behind the last too.
func TestMoreOfTwoParts(t *testing.T) {
	for _, b := range [][]byte{nil, {0}, {255}, []byte("123456789"), everyByte(), mixed(300)} {
		want := crc32.ChecksumIEEE(b)
		for cut := range len(b) + 1 {
			if got := crc.More(crc.Sum(b[:cut]), b[cut:]); got != want {
				t.Errorf("2.1: %d bytes, cut at %d: %08x, want %08x", len(b), cut, got, want)
			}
		}
	}
}

func TestMoreOfThreeParts(t *testing.T) {
	b := mixed(40)
	want := crc32.ChecksumIEEE(b)
	for second := range len(b) + 1 {
		for first := range second + 1 {
			sum := crc.Sum(b[:first])
			sum = crc.More(sum, b[first:second])
			sum = crc.More(sum, b[second:])
			if sum != want {
				t.Errorf("2.1: cut at %d and %d: %08x, want %08x", first, second, sum, want)
			}
		}
	}
}

func TestMoreByteByByte(t *testing.T) {
	b := mixed(1000)
	var sum uint32
	for i := range b {
		sum = crc.More(sum, b[i:i+1])
		if want := crc32.ChecksumIEEE(b[:i+1]); sum != want {
			t.Fatalf("2.1: behind %d bytes: %08x, want %08x", i+1, sum, want)
		}
	}
}

// TestMoreFromAnySum: from those on that are the sum of few bytes only, too.
func TestMoreFromAnySum(t *testing.T) {
	sums := []uint32{0, 1, 2, 0x7fffffff, 0x80000000, 0xcbf43926, 0xedb88320, 0x12477cdf, math.MaxUint32 - 1, math.MaxUint32}
	for bit := range 32 {
		sums = append(sums, 1<<bit, math.MaxUint32^1<<bit)
	}
	for _, sum := range sums {
		for _, none := range [][]byte{nil, {}} {
			if got := crc.More(sum, none); got != sum {
				t.Errorf("2.1: More(%08x, none): %08x", sum, got)
			}
		}
		for _, b := range [][]byte{{0}, {1}, {128}, {255}, make([]byte, 4), bytes.Repeat([]byte{255}, 4), []byte("123456789"), mixed(100)} {
			if got, want := crc.More(sum, b), crc32.Update(sum, crc32.IEEETable, b); got != want {
				t.Errorf("2.1: More(%08x, %x): %08x, want %08x", sum, b, got, want)
			}
		}
	}
}

// TestMoreFromTheGreatestSum: four times 255 has it, and its remainder is 0,
// which bytes of 0 leave as it is and all others move.
func TestMoreFromTheGreatestSum(t *testing.T) {
	if got := crc.More(math.MaxUint32, make([]byte, 5)); got != math.MaxUint32 {
		t.Errorf("2.1: More(ffffffff, 0000000000): %08x", got)
	}
	ones := bytes.Repeat([]byte{255}, 4)
	for _, b := range [][]byte{{0}, {1}, []byte("abc")} {
		if got, want := crc.More(math.MaxUint32, b), crc.Sum(append(bytes.Clone(ones), b...)); got != want {
			t.Errorf("2.1: More(ffffffff, %x): %08x, want %08x", b, got, want)
		}
	}
}

// TestChangesNothing: neither the bytes nor the spare room behind them.
func TestChangesNothing(t *testing.T) {
	room := mixed(64)
	before := bytes.Clone(room)
	for n := range len(room) + 1 {
		crc.Sum(room[:n])
		crc.More(0, room[:n])
		crc.More(math.MaxUint32, room[:n])
		if !bytes.Equal(room, before) {
			t.Fatalf("R2: a sum of %d bytes changes its argument: %x", n, room)
		}
	}
}

// TestKeepsNothing: what is handed in later, in the same memory, is summed as
// it is then, and earlier calls do not tell in later ones.
func TestKeepsNothing(t *testing.T) {
	room := mixed(64)
	first := crc.Sum(room)
	crc.More(first, room)
	clear(room)
	if got, want := crc.Sum(room), crc32.ChecksumIEEE(room); got != want {
		t.Errorf("R2: Sum behind a change: %08x, want %08x", got, want)
	}
	if got, want := crc.More(first, room), crc32.Update(first, crc32.IEEETable, room); got != want {
		t.Errorf("R2: More behind a change: %08x, want %08x", got, want)
	}
	if got := crc.Sum(mixed(64)); got != first {
		t.Errorf("R4: the same bytes again: %08x, want %08x", got, first)
	}
	if got := crc.Sum(nil); got != 0 {
		t.Errorf("R4: none, behind other calls: %08x", got)
	}
}
