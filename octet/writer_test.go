package octet_test

import (
	"bytes"
	"encoding/binary"
	"math"
	"testing"

	"locksmith/octet"
)

// The calls stand with the signatures that the chapter lists.
var (
	_ func() *octet.Writer             = octet.NewWriter
	_ func(*octet.Writer, int)         = (*octet.Writer).U8
	_ func(*octet.Writer, int)         = (*octet.Writer).U16
	_ func(*octet.Writer, int64)       = (*octet.Writer).U32
	_ func(*octet.Writer, uint64)      = (*octet.Writer).U64
	_ func(*octet.Writer, []byte)      = (*octet.Writer).Raw
	_ func(*octet.Writer, []byte) bool = (*octet.Writer).Short
	_ func(*octet.Writer) []byte       = (*octet.Writer).Bytes
	_ func(*octet.Writer) int          = (*octet.Writer).Len
)

// holds fails unless w has just these bytes.
func holds(t *testing.T, what string, w *octet.Writer, want []byte) {
	t.Helper()
	if got := w.Bytes(); !bytes.Equal(got, want) {
		t.Errorf("%s: Bytes %x, want %x", what, got, want)
	}
	if got := w.Len(); got != len(want) {
		t.Errorf("%s: Len %d, want %d", what, got, len(want))
	}
}

func TestWriterExample(t *testing.T) {
	w := octet.NewWriter()
	w.U16(258)
	if !w.Short([]byte("ab")) {
		t.Error("1.1: Short(ab) is false")
	}
	holds(t, "1.1: the chapter's example", w, []byte{1, 2, 0, 2, 0x61, 0x62})
}

func TestWriterHasNoneAtFirst(t *testing.T) {
	holds(t, "1.1: at first", octet.NewWriter(), nil)
}

func TestWriterU8(t *testing.T) {
	for _, c := range []struct {
		n    int
		want byte
	}{
		{0, 0}, {1, 1}, {127, 127}, {128, 128}, {255, 255},
		{256, 0}, {257, 1}, {511, 255}, {0x12345, 0x45},
		{-1, 255}, {-128, 128}, {-255, 1}, {-256, 0}, {-257, 255},
		{math.MaxInt, 255}, {math.MinInt, 0}, {math.MinInt + 1, 1},
	} {
		w := octet.NewWriter()
		w.U8(c.n)
		if got := w.Bytes(); !bytes.Equal(got, []byte{c.want}) || w.Len() != 1 {
			t.Errorf("1.1: U8(%d): %x", c.n, got)
		}
	}
}

func TestWriterU16(t *testing.T) {
	for _, c := range []struct {
		n    int
		want uint16
	}{
		{0, 0}, {1, 1}, {255, 255}, {256, 256}, {258, 258}, {0x8000, 0x8000}, {65535, 65535},
		{65536, 0}, {65537, 1}, {0x12345, 0x2345},
		{-1, 65535}, {-2, 65534}, {-256, 0xff00}, {-65535, 1}, {-65536, 0}, {-65537, 65535},
		{math.MaxInt, 65535}, {math.MinInt, 0}, {math.MinInt + 258, 258},
	} {
		w := octet.NewWriter()
		w.U16(c.n)
		if got := w.Bytes(); !bytes.Equal(got, binary.BigEndian.AppendUint16(nil, c.want)) || w.Len() != 2 {
			t.Errorf("1.1: U16(%d): %x", c.n, got)
		}
	}
}

func TestWriterU32(t *testing.T) {
	for _, c := range []struct {
		n    int64
		want uint32
	}{
		{0, 0}, {1, 1}, {0x01020304, 0x01020304}, {1 << 31, 1 << 31}, {1<<32 - 1, math.MaxUint32},
		{1 << 32, 0}, {1<<32 + 1, 1}, {0x0102030405060708, 0x05060708},
		{-1, math.MaxUint32}, {-2, math.MaxUint32 - 1}, {-1 << 31, 1 << 31},
		{-1<<32 + 1, 1}, {-1 << 32, 0}, {-1<<32 - 1, math.MaxUint32},
		{math.MaxInt64, math.MaxUint32}, {math.MinInt64, 0}, {math.MinInt64 + 5, 5},
	} {
		w := octet.NewWriter()
		w.U32(c.n)
		if got := w.Bytes(); !bytes.Equal(got, binary.BigEndian.AppendUint32(nil, c.want)) || w.Len() != 4 {
			t.Errorf("1.1: U32(%d): %x", c.n, got)
		}
	}
}

func TestWriterU64(t *testing.T) {
	belowZero := int64(-2)
	for _, c := range []struct {
		n    uint64
		want []byte
	}{
		{0, []byte{0, 0, 0, 0, 0, 0, 0, 0}},
		{1, []byte{0, 0, 0, 0, 0, 0, 0, 1}},
		{0x0102030405060708, []byte{1, 2, 3, 4, 5, 6, 7, 8}},
		{1 << 63, []byte{128, 0, 0, 0, 0, 0, 0, 0}},
		{math.MaxUint64, []byte{255, 255, 255, 255, 255, 255, 255, 255}},
		{uint64(belowZero), []byte{255, 255, 255, 255, 255, 255, 255, 254}},
	} {
		w := octet.NewWriter()
		w.U64(c.n)
		if got := w.Bytes(); !bytes.Equal(got, c.want) || w.Len() != 8 {
			t.Errorf("1.1: U64(%d): %x", c.n, got)
		}
	}
}

// TestWriterLaysBehind: each call lays behind those ahead of it, and Bytes and
// Len tell so behind each.
func TestWriterLaysBehind(t *testing.T) {
	w := octet.NewWriter()
	var want []byte
	for _, c := range []struct {
		what string
		do   func()
		adds []byte
	}{
		{"U8", func() { w.U8(7) }, []byte{7}},
		{"Raw of nil", func() { w.Raw(nil) }, nil},
		{"U16", func() { w.U16(0x0809) }, []byte{8, 9}},
		{"Raw of an empty list", func() { w.Raw([]byte{}) }, nil},
		{"U32", func() { w.U32(-3) }, []byte{255, 255, 255, 253}},
		{"Raw", func() { w.Raw([]byte{0, 1, 0}) }, []byte{0, 1, 0}},
		{"Short", func() { w.Short([]byte{5}) }, []byte{0, 1, 5}},
		{"U64", func() { w.U64(1 << 56) }, []byte{1, 0, 0, 0, 0, 0, 0, 0}},
		{"Short of nil", func() { w.Short(nil) }, []byte{0, 0}},
		{"Raw of its own bytes", func() { w.Raw(w.Bytes()[:2]) }, []byte{7, 8}},
		{"Short of too many", func() { w.Short(make([]byte, 65536)) }, nil},
		{"U8 again", func() { w.U8(1) }, []byte{1}},
	} {
		c.do()
		want = append(want, c.adds...)
		holds(t, "1.1: behind "+c.what, w, want)
	}
}

func TestWriterShortLengths(t *testing.T) {
	for _, n := range []int{0, 1, 255, 256, 257, 65534, 65535} {
		b := bytes.Repeat([]byte{0xab}, n)
		w := octet.NewWriter()
		if !w.Short(b) {
			t.Errorf("1.1: Short of %d bytes is false", n)
		}
		want := append([]byte{byte(n >> 8), byte(n)}, b...)
		if !bytes.Equal(w.Bytes(), want) || w.Len() != n+2 {
			t.Errorf("1.1: Short of %d bytes lays %d", n, w.Len())
		}
	}
	for _, n := range []int{65536, 65537, 131072} {
		w := octet.NewWriter()
		w.U8(3)
		if w.Short(make([]byte, n)) {
			t.Errorf("1.1: Short of %d bytes is true", n)
		}
		holds(t, "1.1: behind a false Short", w, []byte{3})
	}
}

func TestWriterNeitherChangesNorKeepsWhatComesIn(t *testing.T) {
	for _, c := range []struct {
		what string
		lay  func(*octet.Writer, []byte)
		want []byte
	}{
		{"Raw", (*octet.Writer).Raw, []byte{1, 2, 3}},
		{"Short", func(w *octet.Writer, b []byte) { w.Short(b) }, []byte{0, 3, 1, 2, 3}},
	} {
		room := []byte{1, 2, 3, 4, 5, 6, 7, 8}
		kept, grown := octet.NewWriter(), octet.NewWriter()
		c.lay(kept, room[:3])
		c.lay(grown, room[:3])
		grown.U8(9)
		if !bytes.Equal(room, []byte{1, 2, 3, 4, 5, 6, 7, 8}) {
			t.Errorf("R2: %s changes its argument: %x", c.what, room)
		}
		clear(room)
		holds(t, "R2: "+c.what+", its argument changed later", kept, c.want)
		holds(t, "R2: "+c.what+", its argument changed behind another call", grown, append(c.want, 9))
	}
}

func TestWriterBytesIsNewMemory(t *testing.T) {
	w := octet.NewWriter()
	for n := range 20 {
		want := bytes.Repeat([]byte{1}, n)
		one, other := w.Bytes(), w.Bytes()
		spoil(one)
		if !bytes.Equal(other, want) {
			t.Errorf("R2: two answers share memory: %x", other)
		}
		holds(t, "R2: an earlier answer changed, spare room too", w, want)
		w.U8(1)
		if spare := one[:cap(one)]; bytes.Contains(spare, []byte{1}) {
			t.Errorf("R2: a later call wrote into an answer: %x", spare)
		}
		spoil(other)
		holds(t, "R2: an answer from ahead of the last call changed", w, append(want, 1))
	}
}

func TestWritersKnowNothingOfOneAnother(t *testing.T) {
	a, b := octet.NewWriter(), octet.NewWriter()
	a.U16(1)
	b.U8(2)
	a.Short([]byte{3})
	holds(t, "R7: one", a, []byte{0, 1, 0, 1, 3})
	holds(t, "R7: the other", b, []byte{2})
}

// spoil fills a list and its spare room.
func spoil(b []byte) {
	b = b[:cap(b)]
	for i := range b {
		b[i] = 0xee
	}
}
