package ttlv_test

import (
	"bytes"
	"testing"

	"locksmith/api"
	"locksmith/ttlv"
)

func TestThereAndBack(t *testing.T) {
	draw := drawer(64)
	seen := map[int]int{}
	for range 30000 {
		i := drawItem(draw, 1+draw(6))
		b, e := ttlv.Encode(i)
		if e != api.OK || !bytes.Equal(b, laid(i)) || len(b) != ttlv.Size(i) {
			t.Fatalf("6.2: %+v: %x %d, Size %d", i, b, e, ttlv.Size(i))
		}
		x, e := ttlv.Decode(b)
		if e != api.OK || !ttlv.Same(x, i) || !alike(x, i) {
			t.Fatalf("6.4: %+v is %+v again: %d", i, x, e)
		}
		seen[i.Type]++
	}
	for kind := ttlv.Structure; kind <= ttlv.Interval; kind++ {
		if seen[kind] < 1000 {
			t.Errorf("type %d was drawn %d times", kind, seen[kind])
		}
	}
}

// spoil turns, cuts off, or puts in a byte or some.
func spoil(draw func(int) int, b []byte) []byte {
	b = bytes.Clone(b)
	at := draw(len(b))
	switch draw(7) {
	case 0:
		b[at] = byte(draw(256))
	case 1:
		b[at] ^= 1 << draw(8)
	case 2:
		b = b[:at]
	case 3:
		b = append(b[:at:at], append(drawBytes(draw, 1+draw(9)), b[at:]...)...)
	case 4:
		b = append(b[:at:at], b[min(len(b), at+1+draw(9)):]...)
	case 5: // a length: how the items are parted hangs on it
		at = at / 8 * 8
		b[at+7] += byte(8 * (draw(5) - 2))
	case 6: // a type, most often one that is another
		b[at/8*8+3] = byte(draw(12))
	}
	return b
}

func TestSpoiltBytes(t *testing.T) {
	draw := drawer(65)
	seen := map[api.Errno]int{}
	for range 60000 {
		b := laid(drawItem(draw, 1+draw(5)))
		for range 1 + draw(3) {
			if len(b) >= 8 && len(b)%8 == 0 {
				b = spoil(draw, b)
			}
		}
		seen[compare(t, b)]++
	}
	for _, e := range []api.Errno{api.OK, api.ErrForm, api.ErrShort, api.ErrPad} {
		if seen[e] < 100 {
			t.Errorf("error %d was drawn %d times", e, seen[e])
		}
	}
}

// Bytes that are drawn part by part, of heads and of what may stand in items.
func TestDrawnBytes(t *testing.T) {
	draw := drawer(66)
	for range 60000 {
		var b []byte
		for range 1 + draw(8) {
			switch draw(4) {
			case 0, 1:
				b = append(b, head(drawTag(draw), draw(12), []int{0, 4, 8, 16, draw(40), 8 * draw(9)}[draw(6)])...)
			case 2:
				b = append(b, 0, 0, 0, byte(draw(3)), 0, 0, 0, byte(draw(3)))
			case 3:
				b = append(b, drawBytes(draw, draw(12))...)
			}
		}
		compare(t, b)
	}
	for n := range 2000 {
		compare(t, drawBytes(draw, n%40))
	}
}

func FuzzDecode(f *testing.F) {
	for _, i := range types() {
		f.Add(laid(i))
	}
	f.Add(laid(of(types()...)))
	f.Fuzz(func(t *testing.T, b []byte) { compare(t, b) })
}
