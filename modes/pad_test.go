package modes_test

import (
	"bytes"
	"strconv"
	"testing"

	"locksmith/api"
	"locksmith/modes"
)

// padded lays it by hand.
func padded(text []byte) []byte {
	b := bytes.Clone(text)
	n := 16 - len(text)%16
	for range n {
		b = append(b, byte(n))
	}
	return b
}

func checkPad(t *testing.T, text []byte) {
	t.Helper()
	b := modes.Pad(text)
	if len(b)%16 != 0 || len(b) <= len(text) || len(b) > len(text)+16 || !bytes.Equal(b, padded(text)) {
		t.Errorf("9.1: Pad(%x): %x, want %x", text, b, padded(text))
	}
	x, e := modes.Unpad(b)
	checkTaken(t, "Unpad of "+strconv.Itoa(len(text))+" bytes padded", x, e, text)
}

func TestExample(t *testing.T) {
	x, e := modes.Unpad(modes.Pad([]byte("ab")))
	checkTaken(t, "Unpad(Pad(ab))", x, e, []byte("ab"))
	if got := modes.Pad([]byte("ab")); string(got) != "ab\x0e\x0e\x0e\x0e\x0e\x0e\x0e\x0e\x0e\x0e\x0e\x0e\x0e\x0e" {
		t.Errorf("9.1: Pad(ab): %x", got)
	}
}

// TestPadOfLengths: drawn texts, and such as look as if they were padded.
func TestPadOfLengths(t *testing.T) {
	draw := drawer(1)
	checkPad(t, nil)
	for n := range 65 {
		checkPad(t, draw(n))
		for value := range 18 {
			checkPad(t, bytes.Repeat([]byte{byte(value)}, n))
		}
		checkPad(t, bytes.Repeat([]byte{0xff}, n))
	}
	for _, n := range []int{240, 255, 256, 257, 4095, 4096, 1<<16 - 1, 1 << 16, 1<<16 + 1} {
		checkPad(t, draw(n))
	}
}

// TestPadOfWholeBlocks: a whole block stands behind them.
func TestPadOfWholeBlocks(t *testing.T) {
	sixteens := bytes.Repeat([]byte{16}, 16)
	for n := range 5 {
		text := drawer(uint64(n))(16 * n)
		if got := modes.Pad(text); !bytes.Equal(got, joined(text, sixteens)) {
			t.Errorf("9.1: Pad of %d whole blocks: %x", n, got)
		}
	}
	x, e := modes.Unpad(sixteens)
	checkTaken(t, "Unpad of a block of 16s", x, e, nil)
	x, e = modes.Unpad(joined(sixteens, sixteens))
	checkTaken(t, "Unpad of two blocks of 16s", x, e, sixteens)
}

// TestPadTwice: what is padded is a text as any other.
func TestPadTwice(t *testing.T) {
	text := []byte("abc")
	twice := modes.Pad(modes.Pad(text))
	once, e := modes.Unpad(twice)
	checkTaken(t, "Unpad of what is padded twice", once, e, padded(text))
	x, e := modes.Unpad(once)
	checkTaken(t, "Unpad of it again", x, e, text)
}

// TestUnpadOfLengths: none but those of whole blocks, whatever stands at their
// end.
func TestUnpadOfLengths(t *testing.T) {
	x, e := modes.Unpad(nil)
	checkRefused(t, "Unpad of nil", x, e, api.ErrPad)
	x, e = modes.Unpad([]byte{})
	checkRefused(t, "Unpad of no bytes", x, e, api.ErrPad)
	x, e = modes.Unpad(modes.Pad(nil)[:0])
	checkRefused(t, "Unpad of no bytes with room", x, e, api.ErrPad)
	for n := 1; n < 300; n++ {
		for value := range 18 {
			b := bytes.Repeat([]byte{byte(value)}, n)
			x, e := modes.Unpad(b)
			if n%16 == 0 && value >= 1 && value <= 16 {
				checkTaken(t, strconv.Itoa(n)+" bytes "+strconv.Itoa(value), x, e, b[:n-value])
			} else {
				checkRefused(t, strconv.Itoa(n)+" bytes "+strconv.Itoa(value), x, e, api.ErrPad)
			}
		}
	}
}

// TestUnpadOfRoom: what stands behind the bytes counts for nothing.
func TestUnpadOfRoom(t *testing.T) {
	b := modes.Pad([]byte("abc"))
	for n := range 16 {
		x, e := modes.Unpad(b[:n])
		checkRefused(t, "Unpad of "+strconv.Itoa(n)+" bytes of 16", x, e, api.ErrPad)
	}
	long := joined(b, bytes.Repeat([]byte{9}, 16))
	x, e := modes.Unpad(long[:16])
	checkTaken(t, "Unpad of 16 bytes of 32", x, e, []byte("abc"))
}

// TestUnpadOfLastBytes: behind bytes of each value, of all 256 last ones those
// alone that tell how many such there are.
func TestUnpadOfLastBytes(t *testing.T) {
	for _, blocks := range []int{1, 2, 3} {
		for value := range 256 {
			for last := range 256 {
				b := bytes.Repeat([]byte{byte(value)}, 16*blocks)
				b[len(b)-1] = byte(last)
				x, e := modes.Unpad(b)
				what := strconv.Itoa(16*blocks-1) + " bytes " + strconv.Itoa(value) + " and one " + strconv.Itoa(last)
				if last == 1 || last == value && value >= 1 && value <= 16 {
					checkTaken(t, what, x, e, b[:len(b)-last])
				} else {
					checkRefused(t, what, x, e, api.ErrPad)
				}
			}
		}
	}
}

// TestUnpadOfOneWrong: any of the n bytes that is not n, by each of its bits;
// a byte ahead of them may be any.
func TestUnpadOfOneWrong(t *testing.T) {
	for _, blocks := range []int{1, 2} {
		for n := 1; n <= 16; n++ {
			good := joined(bytes.Repeat([]byte{0xa5}, 16*blocks-n), bytes.Repeat([]byte{byte(n)}, n))
			for bit := range 8 * len(good) {
				b := flipped(good, bit)
				x, e := modes.Unpad(b)
				what := "Unpad(" + string(rune('0'+blocks)) + " blocks, " + strconv.Itoa(n) + " bytes so, bit " + strconv.Itoa(bit) + " turned)"
				last := int(b[len(b)-1])
				switch {
				case bit/8 < len(b)-n:
					checkTaken(t, what, x, e, b[:len(b)-n])
				case bit/8 == len(b)-1 && last == 1:
					checkTaken(t, what, x, e, b[:len(b)-1])
				default:
					checkRefused(t, what, x, e, api.ErrPad)
				}
			}
		}
	}
}
