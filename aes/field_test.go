package aes_test

import (
	"testing"

	"locksmith/aes"
)

func TestTimesOfAllPairs(t *testing.T) {
	for a := range 256 {
		for b := range 256 {
			if got, want := aes.Times(byte(a), byte(b)), product(byte(a), byte(b)); got != want {
				t.Fatalf("8.1: Times(%x, %x): %x, want %x", a, b, got, want)
			}
		}
	}
}

// TestTimesExamples: the chapter's, and those of FIPS 197, 4.2.
func TestTimesExamples(t *testing.T) {
	for _, c := range [][3]byte{
		{0x57, 0x13, 0xfe}, {0x57, 0x83, 0xc1}, {0x57, 0x02, 0xae}, {0x57, 0x04, 0x47}, {0x57, 0x08, 0x8e}, {0x57, 0x10, 0x07},
		{0x80, 0x02, 0x1b}, {0x80, 0x80, 0x9a}, {0xff, 0xff, 0x13}, {0x53, 0xca, 0x01},
	} {
		if got := aes.Times(c[0], c[1]); got != c[2] {
			t.Errorf("8.1: Times(%x, %x): %x, want %x", c[0], c[1], got, c[2])
		}
		if got := aes.Times(c[1], c[0]); got != c[2] {
			t.Errorf("8.1: Times(%x, %x): %x, want %x", c[1], c[0], got, c[2])
		}
	}
}

// TestTimesEdges: by 0, by 1, and which stands first.
func TestTimesEdges(t *testing.T) {
	for a := range 256 {
		x := byte(a)
		if got := [2]byte{aes.Times(x, 0), aes.Times(0, x)}; got != [2]byte{} {
			t.Errorf("8.1: %x by 0: %x", x, got)
		}
		if got := [2]byte{aes.Times(x, 1), aes.Times(1, x)}; got != [2]byte{x, x} {
			t.Errorf("8.1: %x by 1: %x", x, got)
		}
		for b := range 256 {
			if aes.Times(x, byte(b)) != aes.Times(byte(b), x) {
				t.Fatalf("8.1: Times(%x, %x) is not Times(%x, %x)", a, b, b, a)
			}
		}
	}
}

func TestBoxExamples(t *testing.T) {
	for _, c := range [][2]byte{{0, 0x63}, {0x53, 0xed}, {1, 0x7c}, {0x52, 0}, {0xff, 0x16}} {
		if got := aes.Box(c[0]); got != c[1] {
			t.Errorf("8.1: Box(%x): %x, want %x", c[0], got, c[1])
		}
		if got := aes.Unbox(c[1]); got != c[0] {
			t.Errorf("8.1: Unbox(%x): %x, want %x", c[1], got, c[0])
		}
	}
}

// TestBoxOfFips: each byte, as the standard's table has it.
func TestBoxOfFips(t *testing.T) {
	table := raw(t, fipsBox)
	if len(table) != 256 {
		t.Fatalf("the test's own table: %d bytes", len(table))
	}
	for b, want := range table {
		if got := aes.Box(byte(b)); got != want {
			t.Errorf("8.1: Box(%x): %x, want %x", b, got, want)
		}
		if got := aes.Unbox(want); got != byte(b) {
			t.Errorf("8.1: Unbox(%x): %x, want %x", want, got, b)
		}
	}
}

// inverse looks for the byte that makes 1 with b; of 0 it is 0.
func inverse(t *testing.T, b byte) byte {
	t.Helper()
	if b == 0 {
		return 0
	}
	for x := range 256 {
		if product(b, byte(x)) == 1 {
			return byte(x)
		}
	}
	t.Fatalf("%x has no inverse", b)
	return 0
}

// TestBoxByTheRule: each byte, bit by bit as the chapter says.
func TestBoxByTheRule(t *testing.T) {
	for b := range 256 {
		x := inverse(t, byte(b))
		var want byte
		for i := range 8 {
			bit := byte(0x63) >> i & 1
			for _, far := range []int{0, 4, 5, 6, 7} {
				bit ^= x >> ((i + far) % 8) & 1
			}
			want |= bit << i
		}
		if got := aes.Box(byte(b)); got != want {
			t.Errorf("8.1: Box(%x): %x, want %x", b, got, want)
		}
	}
}

// TestBoxOfJustOne: no byte is the Box, or the Unbox, of two.
func TestBoxOfJustOne(t *testing.T) {
	var boxes, unboxes [256]int
	for b := range 256 {
		boxes[aes.Box(byte(b))]++
		unboxes[aes.Unbox(byte(b))]++
	}
	for b := range 256 {
		if boxes[b] != 1 || unboxes[b] != 1 {
			t.Errorf("8.1: %x is the Box of %d bytes, and the Unbox of %d", b, boxes[b], unboxes[b])
		}
	}
}

func TestUnboxIsBack(t *testing.T) {
	for b := range 256 {
		if got := aes.Unbox(aes.Box(byte(b))); got != byte(b) {
			t.Errorf("8.1: Unbox(Box(%x)): %x", b, got)
		}
		if got := aes.Box(aes.Unbox(byte(b))); got != byte(b) {
			t.Errorf("8.1: Box(Unbox(%x)): %x", b, got)
		}
	}
}

// TestFieldAgain: R4: what was asked ahead of it turns nothing.
func TestFieldAgain(t *testing.T) {
	for b := 255; b >= 0; b-- {
		x := byte(b)
		times, box, unbox := aes.Times(x, 0x57), aes.Box(x), aes.Unbox(x)
		aes.Times(^x, 0x13)
		aes.Box(^x)
		aes.Unbox(^x)
		if aes.Times(x, 0x57) != times || aes.Box(x) != box || aes.Unbox(x) != unbox {
			t.Errorf("R4: of %x another answer, asked again", x)
		}
	}
}
