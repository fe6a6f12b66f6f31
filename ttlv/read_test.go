package ttlv_test

import (
	"bytes"
	"testing"

	"locksmith/api"
	"locksmith/ttlv"
)

// refused asks Decode of bytes that it must refuse, and holds the error
// against the one that is worked out here, too.
func refused(t *testing.T, name string, b []byte, want api.Errno) {
	t.Helper()
	if _, e := read(b); e != want {
		t.Fatalf("%s: the test's own reader answers %d, not %d", name, e, want)
	}
	if i, e := ttlv.Decode(b); e != want || !isNone(i) {
		t.Errorf("6.3: %s: %d, not %d; beside it %+v", name, e, want, i)
	}
}

// within asks of the bytes alone, and of them within structures.
func within(t *testing.T, name string, b []byte, want api.Errno) {
	t.Helper()
	refused(t, name, b, want)
	refused(t, name+", in a structure", box(b), want)
	refused(t, name+", behind a kid", box(laid(text("abc")), b), want)
	refused(t, name+", ahead of what is worse", box(b, head(0x430000, 99, 9)), want)
	refused(t, name+", of a kid's kid", box(laid(of()), box(b)), want)
	refused(t, name+", ahead of bytes that are left", append(box(b), 1), want)
}

func taken(t *testing.T, name string, b []byte, want item) {
	t.Helper()
	if i, e := ttlv.Decode(b); e != api.OK || !alike(i, want) {
		t.Errorf("6.3: %s: %+v %d", name, i, e)
	}
}

func TestDecodeLong(t *testing.T) {
	longest := data(ttlv.Bytes, make([]byte, api.MaxMessage-8))
	taken(t, "the longest", laid(longest), longest)
	refused(t, "a byte more", append(laid(longest), 0), api.ErrLong)
	refused(t, "0s", make([]byte, api.MaxMessage+1), api.ErrLong)
	refused(t, "0s, as many as may be", make([]byte, api.MaxMessage), api.ErrForm)
	refused(t, "a right one, but too long", laid(data(ttlv.Bytes, make([]byte, api.MaxMessage))), api.ErrLong)
	refused(t, "a length that is more", append(head(tag, ttlv.Bytes, 1<<20), make([]byte, api.MaxMessage)...), api.ErrLong)
	refused(t, "bytes left behind an item", append(laid(text("a")), make([]byte, api.MaxMessage)...), api.ErrLong)
	refused(t, "too deep, too", append(boxes(20, nil), make([]byte, api.MaxMessage)...), api.ErrLong)
}

func TestDecodeShortHead(t *testing.T) {
	whole := laid(text(""))
	for n := range 8 {
		refused(t, "at the front", whole[:n], api.ErrShort)
		refused(t, "at the front, 0s", make([]byte, n), api.ErrShort)
		refused(t, "at the front, of no tag", bytes.Repeat([]byte{0xff}, n), api.ErrShort)
		if n > 0 {
			within(t, "in a structure", box(whole[:n]), api.ErrShort)
			within(t, "in a structure, of no tag", box(bytes.Repeat([]byte{0xff}, n)), api.ErrShort)
			refused(t, "behind a kid", box(whole, whole[:n]), api.ErrShort)
			// What stands behind the structure is not its own.
			refused(t, "what is missing stands behind", append(box(whole[:n]), make([]byte, 16)...), api.ErrShort)
			refused(t, "a kid takes it from its outer's", box(box(whole[:n]), whole[n:]), api.ErrShort)
		}
	}
	refused(t, "nil", nil, api.ErrShort)
}

func TestDecodeDeep(t *testing.T) {
	for n := range api.MaxDepth {
		taken(t, "a chain", boxes(n, laid(text("a"))), chain(n, text("a")))
		taken(t, "a chain of structures", boxes(n, laid(of())), chain(n, of()))
	}
	for n := api.MaxDepth; n < 40; n++ {
		refused(t, "a chain", boxes(n, laid(text("a"))), api.ErrDeep)
		refused(t, "a chain of structures", boxes(n, laid(of())), api.ErrDeep)
	}
	deep := boxes(api.MaxDepth, laid(of()))
	refused(t, "behind kids", box(laid(text("a")), deep[8:]), api.ErrDeep)
	refused(t, "ahead of what is worse", box(deep[8:], head(0x430000, 1, 0)), api.ErrDeep)
	refused(t, "of no tag", boxes(api.MaxDepth, head(0x430000, 1, 0)), api.ErrDeep)
	refused(t, "of no type", boxes(api.MaxDepth, head(tag, 0, 0)), api.ErrDeep)
	refused(t, "of a length that is more", boxes(api.MaxDepth, head(tag, 7, 1)), api.ErrDeep)
	refused(t, "of a length that can't be", boxes(api.MaxDepth, head(tag, 2, 0)), api.ErrDeep)
	for n := 1; n < 8; n++ {
		refused(t, "eight bytes are not there", boxes(api.MaxDepth, make([]byte, n)), api.ErrShort)
	}
	refused(t, "no tag, one less deep", boxes(api.MaxDepth-1, head(0x430000, 1, 0)), api.ErrForm)
	// Once out of the deep, it counts from where it is.
	both := box(boxes(api.MaxDepth-2, laid(of())), boxes(api.MaxDepth-2, laid(of())))
	taken(t, "deep twice", both, of(chain(api.MaxDepth-2, of()), chain(api.MaxDepth-2, of())))
}

func TestDecodeMany(t *testing.T) {
	const most = api.MaxItems - 1
	kids := bytes.Repeat(laid(of()), most)
	taken(t, "as many as may be", box(kids), of(some(most, of())...))
	taken(t, "as many as may be, once more", box(kids), of(some(most, of())...))
	refused(t, "one more", box(kids, laid(of())), api.ErrForm)
	refused(t, "one more, within the last", box(kids[8:], box(laid(of()))), api.ErrForm)
	refused(t, "one more, ahead", box(box(kids)), api.ErrForm)
	refused(t, "far more", box(kids, kids[:3000]), api.ErrForm)
	refused(t, "one more, whose length is more", box(kids, head(tag, 7, 9)), api.ErrForm)
	refused(t, "one more, with padding", box(kids, head(tag, 7, 1), []byte("a\x01")), api.ErrForm)
	refused(t, "the last one's length is more", box(kids[8:], head(tag, 7, 9)), api.ErrShort)
	refused(t, "the last one's padding", box(kids[8:], head(tag, 7, 1), []byte("a\x01")), api.ErrPad)
	for n := 1; n < 8; n++ {
		refused(t, "one more, of which eight bytes are not there", box(kids, make([]byte, n)), api.ErrShort)
	}
	// The one that is too many is too deep, too: it has twelve above it, so that
	// there are 588 beside them.
	beside := bytes.Repeat(laid(of()), api.MaxItems-api.MaxDepth)
	refused(t, "too many and too deep", box(beside, boxes(api.MaxDepth-1, laid(of()))), api.ErrDeep)
	refused(t, "too many, as deep as may be", box(beside, laid(of()), boxes(api.MaxDepth-2, laid(of()))), api.ErrForm)
	taken(t, "neither", box(beside, boxes(api.MaxDepth-2, laid(of()))), of(append(some(api.MaxItems-api.MaxDepth, of()), chain(api.MaxDepth-2, of()))...))
	spread := box(box(bytes.Repeat(laid(text("")), 298)), box(bytes.Repeat(laid(text("")), 299)))
	taken(t, "spread", spread, of(of(some(298, text(""))...), of(some(299, text(""))...)))
	refused(t, "spread, one more", box(box(bytes.Repeat(laid(text("")), 299)), box(bytes.Repeat(laid(text("")), 299))), api.ErrForm)
}

func TestDecodeTags(t *testing.T) {
	for high := range 256 {
		for _, low := range []int{0, 1, 0x20, 0x7fff, 0x8000, 0xffff} {
			tag := high<<16 | low
			for _, i := range types() {
				b := laid(tagged(tag, i))
				if high == 0x42 || high == 0x54 {
					taken(t, "a tag", b, tagged(tag, i))
					continue
				}
				refused(t, "no tag", b, api.ErrForm)
				refused(t, "no tag, in a structure", box(b), api.ErrForm)
			}
		}
	}
	within(t, "no tag, and a length that is more", head(0x430000, ttlv.Text, 99999), api.ErrForm)
	within(t, "no tag, and a length that can't be", head(0x41ffff, ttlv.Integer, 0), api.ErrForm)
	within(t, "no tag, and padding that is not 0", append(head(0x550000, ttlv.Text, 1), "a1234567"...), api.ErrForm)
}

func TestDecodeTypes(t *testing.T) {
	for kind := range 256 {
		if kind >= ttlv.Structure && kind <= ttlv.Interval {
			continue
		}
		within(t, "no type", head(tag, kind, 0), api.ErrForm)
		within(t, "no type, with bytes", append(head(tag, kind, 8), make([]byte, 8)...), api.ErrForm)
		refused(t, "no type, and a length that is more", head(tag, kind, 8), api.ErrForm)
		refused(t, "no type, and padding that is not 0", append(head(tag, kind, 1), "a1234567"...), api.ErrForm)
	}
}

func TestDecodeLengthThatIsMore(t *testing.T) {
	for _, i := range types() {
		b := laid(i)
		for _, left := range []int{0, 1, 4, 7, 8, 16} {
			for _, more := range []int{1, 2, 8, 255, 1 << 8, 1 << 16, 1 << 24, 1<<31 - left, 1<<32 - 1 - left} {
				x := append(head(tag, i.Type, left+more), make([]byte, left)...)
				refused(t, "a length that is more", x, api.ErrShort)
				refused(t, "a length that is more, in a structure", box(x), api.ErrShort)
				refused(t, "of a structure's bytes, not of all", append(box(x), make([]byte, 32)...), api.ErrShort)
			}
		}
		for n := range len(b) {
			refused(t, "cut off", b[:n], api.ErrShort)
			refused(t, "cut off within a structure", box(b, b)[:8+len(b)+n], api.ErrShort)
			if n > 0 {
				refused(t, "the structure ends within it", box(b, b[:n]), api.ErrShort)
			}
		}
	}
	// A Boolean of nine bytes can't be, but that is asked later.
	refused(t, "and that can't be", append(head(tag, ttlv.Boolean, 9), make([]byte, 8)...), api.ErrShort)
	refused(t, "and a text that is none", append(head(tag, ttlv.Text, 9), 0xff, 0xff), api.ErrShort)
}

// possible tells which lengths a type can have.
func possible(kind, length int) bool {
	switch kind {
	case ttlv.Integer, ttlv.Enum, ttlv.Interval:
		return length == 4
	case ttlv.Long, ttlv.Boolean, ttlv.Date:
		return length == 8
	case ttlv.Big:
		return length > 0 && length%8 == 0
	}
	return true
}

func TestDecodeLengthThatCannotBe(t *testing.T) {
	for kind := ttlv.Integer; kind <= ttlv.Interval; kind++ {
		for length := range 40 {
			room := (length + 7) / 8 * 8
			b := append(head(tag, kind, length), make([]byte, room)...)
			if possible(kind, length) {
				if _, e := ttlv.Decode(b); e != api.OK {
					t.Errorf("6.3: type %d, length %d: %d", kind, length, e)
				}
				continue
			}
			within(t, "a length that can't be", b, api.ErrForm)
			if length%8 == 0 {
				continue
			}
			refused(t, "and padding that is missing", b[:8+length], api.ErrForm)
			refused(t, "and padding that is not 0", append(b[:8+length:8+length], 1), api.ErrForm)
		}
	}
	// Of a structure, the kids tell what is wrong with its length.
	refused(t, "a structure of four bytes", box(make([]byte, 4)), api.ErrShort)
	refused(t, "a structure that ends within the padding", box(laid(text("a"))[:12]), api.ErrShort)
}

func TestDecodeBoolean(t *testing.T) {
	for at := range 8 {
		for n := range 256 {
			b := laid(number(ttlv.Boolean, 0))
			b[8+at] = byte(n)
			if n == 0 || n == 1 && at == 7 {
				taken(t, "a Boolean", b, number(ttlv.Boolean, int64(n)))
				continue
			}
			within(t, "no Boolean", b, api.ErrForm)
		}
	}
	within(t, "no Boolean: 1 and more", append(head(tag, ttlv.Boolean, 8), 1, 0, 0, 0, 0, 0, 0, 1), api.ErrForm)
	within(t, "no Boolean: -1", append(head(tag, ttlv.Boolean, 8), bytes.Repeat([]byte{0xff}, 8)...), api.ErrForm)
}

func TestDecodeText(t *testing.T) {
	for _, s := range []string{"\xff", "\x80", "\xc3", "a\xc3", "\xed\xa0\x80", "\xc0\x80", "\xf4\x90\x80\x80", "1234567\xe2", "12345678\xe2"} {
		b := laid(data(ttlv.Bytes, []byte(s)))
		b[3] = ttlv.Text
		within(t, "no UTF-8", b, api.ErrForm)
		if end := 8 + len(s); end < len(b) {
			refused(t, "no UTF-8, and padding that is missing", b[:end], api.ErrForm)
			b[end] = 1
			refused(t, "no UTF-8, and padding that is not 0", b, api.ErrForm)
		}
	}
	// A letter whose end stands in the padding is none.
	refused(t, "half a letter", append(head(tag, ttlv.Text, 1), "\xc3\xbc\x00\x00\x00\x00\x00\x00"...), api.ErrForm)
	for _, s := range []string{"", "a", "ü", "€", "😀", "\x00", "\ufffd", "12345678"} {
		taken(t, "a Text", laid(text(s)), text(s))
	}
}

// padding is an item that so many bytes of padding stand behind.
type padding struct {
	i   item
	pad int
}

func padded() []padding {
	all := []padding{{number(ttlv.Integer, 5), 4}, {number(ttlv.Enum, 1<<32-1), 4}, {number(ttlv.Interval, 0), 4}}
	for n := 1; n < 8; n++ {
		all = append(all, padding{data(ttlv.Bytes, bytes.Repeat([]byte{0xee}, n)), 8 - n})
		all = append(all, padding{text("1234567890abcdefg"[:8+n]), 8 - n})
	}
	return all
}

func TestDecodePadding(t *testing.T) {
	for _, p := range padded() {
		b := laid(p.i)
		for at := len(b) - p.pad; at < len(b); at++ {
			for _, n := range []byte{1, 2, 0x80, 0xff} {
				x := bytes.Clone(b)
				x[at] = n
				within(t, "padding that is not 0", x, api.ErrPad)
				for end := at + 1; end < len(x); end++ {
					refused(t, "padding that is not 0, the rest missing", x[:end], api.ErrPad)
					refused(t, "padding that is not 0, the rest missing in the structure", box(x[:end]), api.ErrPad)
				}
				refused(t, "padding that is not 0, and bytes left", append(x, 0), api.ErrPad)
			}
			refused(t, "padding that is missing", b[:at], api.ErrShort)
			refused(t, "padding that is missing in the structure", box(b[:at]), api.ErrShort)
			refused(t, "padding that stands behind the structure", append(box(b[:at]), b[at:]...), api.ErrShort)
		}
	}
}

func TestDecodeBytesLeft(t *testing.T) {
	for _, i := range types() {
		for _, rest := range []string{"\x00", "a", "1234567", "12345678", "\x00\x00\x00\x00\x00\x00\x00\x00", string(laid(i)), string(head(0x430000, 9, 9))} {
			refused(t, "bytes left", append(laid(i), rest...), api.ErrForm)
		}
	}
	refused(t, "as many as may be, and one more behind", append(box(bytes.Repeat(laid(of()), api.MaxItems-1)), laid(of())...), api.ErrForm)
}

// The first fault from the front is told, and the fault of a kid ahead of
// what stands behind its outer.
func TestDecodeFromTheFront(t *testing.T) {
	faults := map[string][]byte{}
	errs := map[string]api.Errno{}
	add := func(name string, e api.Errno, b []byte) { faults[name], errs[name] = b, e }
	add("tag", api.ErrForm, head(0x430000, 7, 0))
	add("length", api.ErrShort, head(tag, 7, 5000))
	add("pad", api.ErrPad, append(head(tag, 7, 7), "1234567\x01"...))
	add("text", api.ErrForm, append(head(tag, 7, 8), "1234567\xff"...))
	add("deep", api.ErrDeep, boxes(api.MaxDepth, laid(of())))
	for first, a := range faults {
		for second, b := range faults {
			refused(t, first+" ahead of "+second, box(a, b), errs[first])
			refused(t, first+" ahead of "+second+" in boxes", box(box(a), box(b)), errs[first])
			refused(t, first+" ahead of "+second+" behind", append(box(a), b...), errs[first])
		}
	}
}

// Each byte of some messages is turned into every other, cut off, and put in.
func TestDecodeEachByteTurned(t *testing.T) {
	all := of(types()...)
	for _, i := range append(types(), all, of(of(of(text("abc"))), number(ttlv.Enum, 7), tagged(0x54ffff, of()))) {
		b := laid(i)
		for at := range b {
			for n := range 256 {
				x := bytes.Clone(b)
				x[at] = byte(n)
				compare(t, x)
				if n < 3 || n > 253 || n == 0x42 {
					compare(t, append(append(bytes.Clone(b[:at]), byte(n)), b[at:]...))
				}
			}
			compare(t, b[:at])
			compare(t, b[at:])
			compare(t, append(bytes.Clone(b[:at]), b[at+1:]...))
			if at%8 == 0 {
				compare(t, append(bytes.Clone(b[:at]), b[min(at+8, len(b)):]...))
			}
		}
	}
}

// compare holds Decode against the test's own reader.
func compare(t *testing.T, b []byte) api.Errno {
	t.Helper()
	want, wantErr := read(b)
	i, e := ttlv.Decode(b)
	if e != wantErr || e != api.OK && !isNone(i) || e == api.OK && !alike(i, want) {
		t.Fatalf("6.3: %x: %+v %d, not %+v %d", b, i, e, want, wantErr)
	}
	if e != api.OK {
		return e
	}
	if again, e := ttlv.Encode(i); !ttlv.Right(i) || !right(i) || e != api.OK || !bytes.Equal(again, b) || ttlv.Size(i) != len(b) {
		t.Fatalf("6.4: %x: Right %v, laid as %x %d, of Size %d", b, ttlv.Right(i), again, e, ttlv.Size(i))
	}
	return api.OK
}
