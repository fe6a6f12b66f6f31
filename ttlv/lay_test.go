package ttlv_test

import (
	"bytes"
	"testing"

	"locksmith/api"
	"locksmith/ttlv"
)

const maxSize = 1 << 31

func sized(t *testing.T, name string, i item, want int) {
	t.Helper()
	if n := ttlv.Size(i); n != want {
		t.Errorf("6.2: Size of %s is %d, not %d", name, n, want)
	}
}

func TestSizeOfEachType(t *testing.T) {
	for _, kind := range []int{ttlv.Integer, ttlv.Long, ttlv.Enum, ttlv.Boolean, ttlv.Date, ttlv.Interval} {
		for _, n := range []int64{0, 1, -1, 1 << 40, -1 << 63} {
			sized(t, "a number", number(kind, n), 16)
		}
	}
	for _, kind := range []int{ttlv.Big, ttlv.Text, ttlv.Bytes} {
		for n, want := range map[int]int{0: 8, 1: 16, 2: 16, 6: 16, 7: 16, 8: 16, 9: 24, 15: 24, 16: 24, 17: 32, 1023: 1032, 1024: 1032, 1025: 1040} {
			sized(t, "data", data(kind, make([]byte, n)), want)
			sized(t, "data that is not UTF-8", data(kind, bytes.Repeat([]byte{0xff}, n)), want)
		}
	}
	sized(t, "a structure", of(), 8)
	sized(t, "one kid", of(of()), 16)
	sized(t, "kids", of(text("a"), number(ttlv.Integer, 1), of(), data(ttlv.Big, make([]byte, 16))), 8+16+16+8+24)
	sized(t, "kids' kids", of(of(text("a"), of(text("123456789"))), of(text(""))), 8+8+16+8+24+8+8)
}

// Size is told of what is not right, too; it goes by the type alone.
func TestSizeOfWhatIsNotRight(t *testing.T) {
	sized(t, "no item", item{}, 16)
	for _, kind := range []int{0, -1, typeEnd, 1 << 40, -1 << 63} {
		sized(t, "no type", item{Tag: tag, Type: kind}, 16)
		sized(t, "no type, data", item{Tag: tag, Type: kind, Data: make([]byte, 100)}, 16)
		sized(t, "no type, kids", item{Tag: tag, Type: kind, Kids: some(9, text("a"))}, 16)
	}
	sized(t, "a number with data", item{Type: ttlv.Long, Data: make([]byte, 100)}, 16)
	sized(t, "a number with kids", item{Type: ttlv.Integer, Kids: some(9, text("a"))}, 16)
	sized(t, "data with a number and kids", item{Type: ttlv.Text, Int: 9, Data: make([]byte, 3), Kids: some(9, text("a"))}, 16)
	sized(t, "a structure with a number and data", item{Type: ttlv.Structure, Int: 9, Data: make([]byte, 100), Kids: some(2, text("a"))}, 40)
	sized(t, "no tag", item{Type: ttlv.Text, Data: make([]byte, 3)}, 16)
	sized(t, "more than a message", data(ttlv.Bytes, make([]byte, 1<<20+1)), 1<<20+16)
	sized(t, "more items than may be", of(some(10*api.MaxItems, text("a"))...), 8+10*api.MaxItems*16)
}

func TestSizeOfDeepItems(t *testing.T) {
	for n := range 300 {
		sized(t, "a chain with a text", chain(n, text("a")), 8*min(n, 100)+16*b2i(n < 100))
		sized(t, "a chain with a structure", chain(n, of()), 8*min(n+1, 100))
	}
	// All of the hundredth depth are counted, none of the next one.
	sized(t, "kids at the end", chain(98, of(text("a"), number(ttlv.Enum, 1), of())), 98*8+8+16+16+8)
	sized(t, "kids behind the end", chain(99, of(text("a"), number(ttlv.Enum, 1), of())), 100*8)
	sized(t, "beside the deep one", of(chain(150, text("a")), text("a"), chain(150, text("a")), of()), 8+99*8+16+99*8+8)
	sized(t, "a chain of R6's depth", chain(1<<16, text("a")), 800)
}

func b2i(ok bool) int {
	if ok {
		return 1
	}
	return 0
}

// Kids that share what they have make up items that are greater than any
// memory.
func TestSizeIsBound(t *testing.T) {
	big := data(ttlv.Bytes, make([]byte, 1<<20-8)) // 2^20 in all
	sized(t, "one", big, 1<<20)
	sized(t, "just below", of(some(2047, big)...), maxSize-1<<20+8)
	fill := data(ttlv.Bytes, make([]byte, 1<<20-24))
	sized(t, "one block below", of(append(some(2047, big), fill)...), maxSize-8)
	sized(t, "as many as may be told", of(append(some(2047, big), fill, of())...), maxSize)
	sized(t, "a block more", of(append(some(2047, big), fill, of(), of())...), maxSize)
	sized(t, "the kids alone", of(some(2048, big)...), maxSize)
	sized(t, "far more", of(some(5000, big)...), maxSize)
	full := of(some(3000, big)...)
	sized(t, "within another", of(full), maxSize)
	sized(t, "within another, beside others", of(text("a"), full, text("b"), full), maxSize)
	sized(t, "within a chain", chain(98, full), maxSize)
	sized(t, "within a chain that is too long", chain(99, full), 800)
	tower := data(ttlv.Bytes, make([]byte, 1<<12))
	for range 60 {
		tower = of(tower, tower, tower, tower)
	}
	sized(t, "a tower", tower, maxSize)
	alone(t, "a tower", tower, false)
}

// A kid of each type is laid byte by byte as the chapter says.
func TestEncodeOfEachType(t *testing.T) {
	for _, c := range []struct {
		i    item
		want string
	}{
		{number(ttlv.Integer, 8), "420020 02 00000004 00000008 00000000"},
		{number(ttlv.Integer, 0), "420020 02 00000004 00000000 00000000"},
		{number(ttlv.Integer, -1), "420020 02 00000004 ffffffff 00000000"},
		{number(ttlv.Integer, -1<<31), "420020 02 00000004 80000000 00000000"},
		{number(ttlv.Integer, 1<<31-1), "420020 02 00000004 7fffffff 00000000"},
		{number(ttlv.Long, 0x123456789abcdef), "420020 03 00000008 0123456789abcdef"},
		{number(ttlv.Long, -1), "420020 03 00000008 ffffffffffffffff"},
		{number(ttlv.Long, -1<<63), "420020 03 00000008 8000000000000000"},
		{number(ttlv.Long, 1<<63-1), "420020 03 00000008 7fffffffffffffff"},
		{data(ttlv.Big, []byte("abcdefgh")), "420020 04 00000008 6162636465666768"},
		{data(ttlv.Big, []byte("abcdefghijklmnop")), "420020 04 00000010 6162636465666768 696a6b6c6d6e6f70"},
		{number(ttlv.Enum, 255), "420020 05 00000004 000000ff 00000000"},
		{number(ttlv.Enum, 1<<32-1), "420020 05 00000004 ffffffff 00000000"},
		{number(ttlv.Enum, 1<<31), "420020 05 00000004 80000000 00000000"},
		{number(ttlv.Boolean, 0), "420020 06 00000008 0000000000000000"},
		{number(ttlv.Boolean, 1), "420020 06 00000008 0000000000000001"},
		{text(""), "420020 07 00000000"},
		{text("a"), "420020 07 00000001 6100000000000000"},
		{text("ab"), "420020 07 00000002 6162000000000000"},
		{text("abcdefg"), "420020 07 00000007 6162636465666700"},
		{text("abcdefgh"), "420020 07 00000008 6162636465666768"},
		{text("abcdefghi"), "420020 07 00000009 6162636465666768 6900000000000000"},
		{text("ü"), "420020 07 00000002 c3bc000000000000"},
		{data(ttlv.Bytes, nil), "420020 08 00000000"},
		{data(ttlv.Bytes, []byte{0xff}), "420020 08 00000001 ff00000000000000"},
		{data(ttlv.Bytes, []byte{0, 1, 2, 3, 4, 5, 6}), "420020 08 00000007 0001020304050600"},
		{data(ttlv.Bytes, []byte{0, 1, 2, 3, 4, 5, 6, 7}), "420020 08 00000008 0001020304050607"},
		{data(ttlv.Bytes, []byte{0, 1, 2, 3, 4, 5, 6, 7, 8}), "420020 08 00000009 0001020304050607 0800000000000000"},
		{number(ttlv.Date, 1205495800), "420020 09 00000008 0000000047da67f8"},
		{number(ttlv.Date, -2), "420020 09 00000008 fffffffffffffffe"},
		{number(ttlv.Interval, 864000), "420020 0a 00000004 000d2f00 00000000"},
		{number(ttlv.Interval, 1<<32-1), "420020 0a 00000004 ffffffff 00000000"},
		{of(), "420020 01 00000000"},
		{of(of()), "420020 01 00000008 420020 01 00000000"},
		{of(text("a"), number(ttlv.Enum, 1)), "420020 01 00000020 420020 07 00000001 6100000000000000 420020 05 00000004 00000001 00000000"},
		{of(of(text("a")), of()), "420020 01 00000020 420020 01 00000010 420020 07 00000001 6100000000000000 420020 01 00000000"},
		{tagged(0x420000, text("")), "420000 07 00000000"},
		{tagged(0x42ffff, text("")), "42ffff 07 00000000"},
		{tagged(0x540000, text("")), "540000 07 00000000"},
		{tagged(0x54ffff, text("")), "54ffff 07 00000000"},
		{tagged(0x54abcd, of(tagged(0x420102, text("")))), "54abcd 01 00000008 420102 07 00000000"},
	} {
		want := raw(t, c.want)
		b, e := ttlv.Encode(c.i)
		if e != api.OK || !bytes.Equal(b, want) {
			t.Errorf("6.2: %x %d, not %x", b, e, want)
		}
		sized(t, c.want, c.i, len(want))
		if i, e := ttlv.Decode(want); e != api.OK || !alike(i, c.i) || !ttlv.Same(i, c.i) {
			t.Errorf("6.3: %x: %+v %d", want, i, e)
		}
	}
}

// Lengths of more than one byte, and the longest message.
func TestEncodeOfLongItems(t *testing.T) {
	for _, n := range []int{255, 256, 257, 1000, 4096, api.MaxMessage - 9, api.MaxMessage - 8} {
		i := data(ttlv.Bytes, bytes.Repeat([]byte{7}, n))
		b, e := ttlv.Encode(i)
		if e != api.OK || !bytes.Equal(b, laid(i)) || len(b) != ttlv.Size(i) {
			t.Errorf("6.2: %d bytes: %d %d", n, len(b), e)
		}
		x, e := ttlv.Decode(b)
		if e != api.OK || !alike(x, i) {
			t.Errorf("6.3: %d bytes: %d", n, e)
		}
	}
	i := of(some(300, number(ttlv.Integer, -3))...)
	if b, e := ttlv.Encode(i); e != api.OK || !bytes.Equal(b, laid(i)) {
		t.Errorf("6.2: many kids: %d %d", len(b), e)
	}
}
