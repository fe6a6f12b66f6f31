package ttlv_test

import (
	"testing"

	"locksmith/api"
	"locksmith/ttlv"
)

// asked tells what Right and Encode answer, of the item and of items that it
// stands in as a kid, and a kid's kid.
func asked(t *testing.T, name string, i item, want bool) {
	t.Helper()
	for depth, x := range []item{i, of(i), of(of(i)), of(text("a"), of(number(ttlv.Long, 1), i, text("b")), of())} {
		if got := ttlv.Right(x); got != want {
			t.Errorf("6.1: %s, within %d: Right is %v", name, depth, got)
		}
		b, e := ttlv.Encode(x)
		if want && (e != api.OK || string(b) != string(laid(x))) {
			t.Errorf("6.2: %s, within %d: %x %d, not %x", name, depth, b, e, laid(x))
		}
		if !want && (e != api.ErrArg || len(b) != 0) {
			t.Errorf("6.2: %s, within %d: %x %d, not ErrArg", name, depth, b, e)
		}
	}
}

func TestRightOfEachType(t *testing.T) {
	for _, i := range types() {
		asked(t, "plain", i, true)
	}
	for kind, i := range plain() {
		if i.Type != kind && kind > 0 {
			t.Fatalf("a plain item of type %d is missing", kind)
		}
	}
}

// The numbers of the types are a part of what is laid.
func TestNumbersOfTypes(t *testing.T) {
	for k, kind := range []int{ttlv.Structure, ttlv.Integer, ttlv.Long, ttlv.Big, ttlv.Enum, ttlv.Boolean, ttlv.Text, ttlv.Bytes, ttlv.Date, ttlv.Interval} {
		if kind != k+1 {
			t.Errorf("6.1: type %d is %d", k+1, kind)
		}
	}
}

func TestRightTags(t *testing.T) {
	for tag, want := range map[int]bool{
		0x420000: true, 0x420001: true, 0x42abcd: true, 0x42fffe: true, 0x42ffff: true,
		0x540000: true, 0x540001: true, 0x54abcd: true, 0x54fffe: true, 0x54ffff: true,
		0: false, 1: false, -1: false, 0x42: false, 0x4200: false, 0x41ffff: false, 0x430000: false, 0x4c0000: false,
		0x53ffff: false, 0x550000: false, 0xffffff: false, 0x1420000: false, 0x1540000: false, -0x420000: false,
		1<<24 + 0x420020: false, 1<<32 + 0x420020: false, -1 << 63: false, 1<<63 - 1: false, -1<<63 + 0x420020: false,
	} {
		for _, i := range types() {
			asked(t, "tag", tagged(tag, i), want)
		}
	}
}

func TestRightTypes(t *testing.T) {
	for _, kind := range []int{0, -1, typeEnd, 12, 255, 256, 257, 1 << 32, 1<<32 + 1, 1<<63 - 1, -1 << 63} {
		asked(t, "type", item{Tag: tag, Type: kind}, false)
		asked(t, "type, Int", item{Tag: tag, Type: kind, Int: 1}, false)
		asked(t, "type, Data", item{Tag: tag, Type: kind, Data: []byte("12345678")}, false)
		asked(t, "type, Kids", item{Tag: tag, Type: kind, Kids: []item{text("a")}}, false)
	}
	asked(t, "zero", item{}, false)
}

// What a type does not have must be 0 or empty; an empty list is none.
func TestRightHasNothingElse(t *testing.T) {
	isData := map[int]bool{ttlv.Big: true, ttlv.Text: true, ttlv.Bytes: true}
	for _, i := range types() {
		if i.Type == ttlv.Structure || isData[i.Type] {
			for _, n := range []int64{1, -1, 1 << 32, -1 << 63} {
				x := i
				x.Int = n
				asked(t, "Int", x, false)
			}
		}
		if !isData[i.Type] {
			x := i
			x.Data = []byte{}
			asked(t, "empty Data", x, true)
			x.Data = make([]byte, 0, 9)
			asked(t, "empty Data with room", x, true)
			for _, b := range []string{"\x00", "a", "12345678"} {
				x.Data = []byte(b)
				asked(t, "Data", x, false)
			}
		}
		if i.Type != ttlv.Structure {
			x := i
			x.Kids = []item{}
			asked(t, "empty Kids", x, true)
			x.Kids = make([]item, 0, 3)
			asked(t, "empty Kids with room", x, true)
			for _, kid := range []item{text("a"), of(), {}} {
				x.Kids = []item{kid}
				asked(t, "Kids", x, false)
			}
		}
	}
	asked(t, "a structure, empty", of(), true)
	asked(t, "a structure, of empty lists", item{Tag: tag, Type: ttlv.Structure, Data: []byte{}, Kids: []item{}}, true)
}

func TestRightNumbers(t *testing.T) {
	in := map[int][]int64{
		ttlv.Integer:  {0, 1, -1, 8, 1<<31 - 1, -1 << 31, 1<<31 - 2, -1<<31 + 1},
		ttlv.Long:     {0, 1, -1, 1 << 31, 1 << 32, -1<<31 - 1, 1<<63 - 1, -1 << 63},
		ttlv.Enum:     {0, 1, 1 << 31, 1<<31 - 1, 1<<32 - 1, 1<<32 - 2},
		ttlv.Boolean:  {0, 1},
		ttlv.Date:     {0, 1, -1, 1 << 32, api.MaxTime, api.MaxTime + 1, 1<<63 - 1, -1 << 63},
		ttlv.Interval: {0, 1, 1 << 31, 1<<31 - 1, 1<<32 - 1, 1<<32 - 2},
	}
	out := map[int][]int64{
		ttlv.Integer:  {1 << 31, -1<<31 - 1, 1<<31 + 1, 1<<32 - 1, 1 << 32, 1<<32 + 1, 1<<63 - 1, -1 << 63, -1 << 32},
		ttlv.Enum:     {-1, 1 << 32, -2, -1 << 31, 1<<32 + 1, 1<<33 - 1, -1 << 32, 1<<63 - 1, -1 << 63},
		ttlv.Boolean:  {2, -1, 3, 256, 257, 1 << 32, 1<<32 + 1, -1 << 63, 1<<63 - 1},
		ttlv.Interval: {-1, 1 << 32, -2, -1 << 31, 1<<32 + 1, 1<<33 - 1, -1 << 32, 1<<63 - 1, -1 << 63},
	}
	for kind, all := range in {
		for _, n := range all {
			asked(t, "number", number(kind, n), true)
		}
	}
	for kind, all := range out {
		for _, n := range all {
			asked(t, "number beyond", number(kind, n), false)
		}
	}
}

func TestRightData(t *testing.T) {
	for n := range 50 {
		asked(t, "Big", data(ttlv.Big, make([]byte, n)), n > 0 && n%8 == 0)
		asked(t, "Text", data(ttlv.Text, make([]byte, n)), true)
		asked(t, "Bytes", data(ttlv.Bytes, make([]byte, n)), true)
	}
	for _, s := range []string{"", "a", "\x00", "\x7f", "grün", "€", "😀", "\u0080", "\u0800", "\ufffd", "\uffff", "\U0010ffff", "\ud7ff", "\ue000"} {
		asked(t, "Text", text(s), true)
	}
	for _, s := range []string{"\xff", "\x80", "a\xc3", "\xc3", "\xc3a", "\xc0\x80", "\xed\xa0\x80", "\xed\xbf\xbf", "\xf4\x90\x80\x80", "\xf5\x80\x80\x80", "\xe0\x80\x80", "\xf0\x80\x80\x80", "\xe2\x82", "abcdefgh\xfe", "\xf0\x9f\x98"} {
		asked(t, "Text that is none", text(s), false)
		asked(t, "Bytes", data(ttlv.Bytes, []byte(s)), true)
	}
}

// alone is asked as it is, not within others.
func alone(t *testing.T, name string, i item, want bool) {
	t.Helper()
	b, e := ttlv.Encode(i)
	if ttlv.Right(i) != want || (e == api.OK) != want || !want && (e != api.ErrArg || len(b) != 0) {
		t.Errorf("6.1: %s: Right %v, Encode %d", name, ttlv.Right(i), e)
	}
}

func TestRightCounts(t *testing.T) {
	alone(t, "all in one", of(some(api.MaxItems-1, of())...), true)
	alone(t, "one more", of(some(api.MaxItems, of())...), false)
	alone(t, "many more", of(some(10*api.MaxItems, of())...), false)
	half := of(some(api.MaxItems/2-1, text(""))...)
	alone(t, "spread", of(half, of(some(api.MaxItems/2-2, of())...)), true)
	alone(t, "spread, one more", of(half, of(some(api.MaxItems/2-1, of())...)), false)
	alone(t, "the other way round", of(of(some(api.MaxItems/2-2, of())...), half), true)
	alone(t, "one more, the other way round", of(of(some(api.MaxItems/2-1, of())...), half), false)
	alone(t, "one by one", of(append(some(api.MaxItems-2, text("")), number(ttlv.Integer, 1))...), true)
	alone(t, "the last one is wrong", of(append(some(api.MaxItems-2, text("")), number(ttlv.Boolean, 2))...), false)
	// Once behind an item that had as many as may be, the next begins anew.
	alone(t, "all in one again", of(some(api.MaxItems-1, of())...), true)
}

func TestRightDepth(t *testing.T) {
	for _, i := range []item{text("a"), of(), number(ttlv.Integer, 1), data(ttlv.Big, make([]byte, 8))} {
		for n := range 40 {
			alone(t, "chain", chain(n, i), n < api.MaxDepth)
			alone(t, "chain behind others", of(text("a"), chain(n, i), of()), n+1 < api.MaxDepth)
		}
		alone(t, "a long chain", chain(1<<16, i), false)
	}
	deepest := chain(api.MaxDepth-1, text("a"))
	alone(t, "two chains", of(deepest.Kids[0], deepest.Kids[0]), true)
	alone(t, "many deep ones", chain(api.MaxDepth-2, of(text("a"), text("b"), of())), true)
	alone(t, "many deep ones, one deeper", chain(api.MaxDepth-2, of(text("a"), text("b"), of(of()))), false)
}

func TestRightSize(t *testing.T) {
	for _, kind := range []int{ttlv.Text, ttlv.Bytes} {
		alone(t, "as long as may be", data(kind, make([]byte, api.MaxMessage-8)), true)
		alone(t, "filled up", data(kind, make([]byte, api.MaxMessage-15)), true)
		alone(t, "one more", data(kind, make([]byte, api.MaxMessage-7)), false)
		alone(t, "far more", data(kind, make([]byte, 1<<20)), false)
	}
	alone(t, "Big", data(ttlv.Big, make([]byte, api.MaxMessage-8)), true)
	alone(t, "Big and more", data(ttlv.Big, make([]byte, api.MaxMessage)), false)
	alone(t, "numbers", of(some((api.MaxMessage-8)/16, number(ttlv.Integer, 1))...), true)
	alone(t, "numbers, one more", of(some(api.MaxMessage/16, number(ttlv.Integer, 1))...), false)
	alone(t, "a kid", of(data(ttlv.Bytes, make([]byte, api.MaxMessage-16))), true)
	alone(t, "a kid, one more", of(data(ttlv.Bytes, make([]byte, api.MaxMessage-15))), false)
	alone(t, "a kid's kid", of(of(data(ttlv.Bytes, make([]byte, api.MaxMessage-24)))), true)
	alone(t, "a kid's kid, one more", of(of(data(ttlv.Bytes, make([]byte, api.MaxMessage-23)))), false)
	alone(t, "two kids", of(text("a"), data(ttlv.Bytes, make([]byte, api.MaxMessage-32))), true)
	alone(t, "two kids, one more", of(text("a"), data(ttlv.Bytes, make([]byte, api.MaxMessage-31))), false)
}

// An item that stands within itself has no depth and no count: it is not
// right, and both it and its Size are told all the same.
func TestItemWithinItself(t *testing.T) {
	one := make([]item, 1)
	one[0] = of(one...)
	one[0].Kids = one
	alone(t, "within itself", one[0], false)
	if n := ttlv.Size(one[0]); n != 100*8 {
		t.Errorf("6.2: Size of an item within itself is %d", n)
	}
	many := make([]item, 1000)
	for k := range many {
		many[k] = item{Tag: tag, Type: ttlv.Structure, Kids: many}
	}
	alone(t, "many times within itself", many[0], false)
}

// Right goes by what the chapter says, of drawn items that are spoilt here or
// there.
func TestRightDrawn(t *testing.T) {
	draw := drawer(61)
	seen := map[bool]int{}
	for range 20000 {
		i := drawItem(draw, 1+draw(5))
		if !right(i) || !ttlv.Right(i) {
			t.Fatalf("6.1: a drawn item: %+v: %v", i, ttlv.Right(i))
		}
		at := &i
		for len(at.Kids) > 0 && draw(4) > 0 {
			at = &at.Kids[draw(len(at.Kids))]
		}
		switch draw(6) {
		case 0:
			at.Tag = []int{0x41ffff, 0x430000, 0x53ffff, 0x550000, drawTag(draw)}[draw(5)]
		case 1:
			at.Type = draw(12)
		case 2:
			at.Int = []int64{0, 1, 2, -1, 1 << 31, 1 << 32, -1<<31 - 1}[draw(7)]
		case 3:
			at.Data = drawBytes(draw, draw(17))
		case 4:
			at.Kids = append(at.Kids, drawItem(draw, 2))
		}
		want := right(i)
		seen[want]++
		if ttlv.Right(i) != want {
			t.Fatalf("6.1: %+v: Right is not %v", i, want)
		}
		if b, e := ttlv.Encode(i); want != (e == api.OK) || !want && (e != api.ErrArg || len(b) > 0) || want && string(b) != string(laid(i)) {
			t.Fatalf("6.2: %+v: %x %d", i, b, e)
		}
	}
	if seen[true] < 2000 || seen[false] < 2000 {
		t.Fatalf("the draws are too much alike: %v", seen)
	}
}
