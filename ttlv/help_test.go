package ttlv_test

import (
	"bytes"
	"encoding/binary"
	"encoding/hex"
	"strings"
	"testing"
	"unicode/utf8"

	"locksmith/api"
	"locksmith/ttlv"
)

type item = ttlv.Item

// The calls stand with the signatures that the chapter lists.
var (
	_ func(item) bool                = ttlv.Right
	_ func(item) ([]byte, api.Errno) = ttlv.Encode
	_ func([]byte) (item, api.Errno) = ttlv.Decode
	_ func(item) int                 = ttlv.Size
	_ func(item, item) bool          = ttlv.Same
	_ func(item, int) (item, bool)   = ttlv.Kid
	_ struct {
		Tag, Type int
		Int       int64
		Data      []byte
		Kids      []item
	} = struct {
		Tag, Type int
		Int       int64
		Data      []byte
		Kids      []item
	}(item{})
	_ = [...]int{ttlv.Structure, ttlv.Integer, ttlv.Long, ttlv.Big, ttlv.Enum, ttlv.Boolean, ttlv.Text, ttlv.Bytes, ttlv.Date, ttlv.Interval}
)

const (
	tag     = 0x420020
	typeEnd = 11 // one behind the last type
)

func number(kind int, n int64) item { return item{Tag: tag, Type: kind, Int: n} }

func data(kind int, b []byte) item { return item{Tag: tag, Type: kind, Data: b} }

func text(s string) item { return data(ttlv.Text, []byte(s)) }

func of(kids ...item) item { return item{Tag: tag, Type: ttlv.Structure, Kids: kids} }

// tagged answers the item with another tag.
func tagged(tag int, i item) item {
	i.Tag = tag
	return i
}

// chain answers the item within so many structures.
func chain(n int, i item) item {
	for range n {
		i = of(i)
	}
	return i
}

// some answers n items of the same kind.
func some(n int, i item) []item {
	var all []item
	for range n {
		all = append(all, i)
	}
	return all
}

// plain answers one right item of each type, by type.
func plain() []item {
	return []item{
		ttlv.Structure: of(text("a"), number(ttlv.Boolean, 1)),
		ttlv.Integer:   number(ttlv.Integer, -8),
		ttlv.Long:      number(ttlv.Long, -1<<63),
		ttlv.Big:       data(ttlv.Big, []byte("12345678")),
		ttlv.Enum:      number(ttlv.Enum, 1<<32-1),
		ttlv.Boolean:   number(ttlv.Boolean, 1),
		ttlv.Text:      text("grün"),
		ttlv.Bytes:     data(ttlv.Bytes, []byte{0xff, 0, 1}),
		ttlv.Date:      number(ttlv.Date, 1<<40),
		ttlv.Interval:  number(ttlv.Interval, 864000),
	}
}

func types() []item { return plain()[1:] }

// raw answers the bytes of hex digits, blanks passed over.
func raw(t *testing.T, s string) []byte {
	t.Helper()
	b, e := hex.DecodeString(strings.ReplaceAll(s, " ", ""))
	if e != nil {
		t.Fatal(e)
	}
	return b
}

// head answers an item's first eight bytes.
func head(tag, kind, length int) []byte {
	return binary.BigEndian.AppendUint32([]byte{byte(tag >> 16), byte(tag >> 8), byte(tag), byte(kind)}, uint32(length))
}

// box answers the bytes as what stands in a structure.
func box(parts ...[]byte) []byte {
	in := bytes.Join(parts, nil)
	return append(head(tag, ttlv.Structure, len(in)), in...)
}

// boxes answers the bytes within so many structures.
func boxes(n int, b []byte) []byte {
	for range n {
		b = box(b)
	}
	return b
}

// laid is how the chapter lays a right item, worked out here.
func laid(i item) []byte {
	var in []byte
	switch i.Type {
	case ttlv.Structure:
		for _, kid := range i.Kids {
			in = append(in, laid(kid)...)
		}
	case ttlv.Big, ttlv.Text, ttlv.Bytes:
		in = append(in, i.Data...)
	case ttlv.Integer, ttlv.Enum, ttlv.Interval:
		in = binary.BigEndian.AppendUint32(nil, uint32(i.Int))
	default:
		in = binary.BigEndian.AppendUint64(nil, uint64(i.Int))
	}
	b := append(head(i.Tag, i.Type, len(in)), in...)
	for len(b)%8 != 0 {
		b = append(b, 0)
	}
	return b
}

// tally tells how many items there are in all, and how deep they are.
func tally(i item) (count, depth int) {
	count, depth = 1, 1
	for _, kid := range i.Kids {
		n, d := tally(kid)
		count += n
		depth = max(depth, d+1)
	}
	return count, depth
}

// single tells whether the item is right but for its kids, worked out here.
func single(i item) bool {
	if i.Tag>>16 != 0x42 && i.Tag>>16 != 0x54 {
		return false
	}
	if i.Int != 0 && strings.ContainsRune("\x01\x04\x07\x08", rune(i.Type)) {
		return false
	}
	if len(i.Data) > 0 && !strings.ContainsRune("\x04\x07\x08", rune(i.Type)) || len(i.Kids) > 0 && i.Type != 1 {
		return false
	}
	switch i.Type {
	case 1, 3, 8, 9:
		return true
	case 2:
		return i.Int >= -2147483648 && i.Int <= 2147483647
	case 4:
		return len(i.Data) != 0 && len(i.Data)&7 == 0
	case 5, 10:
		return i.Int >= 0 && i.Int <= 4294967295
	case 6:
		return i.Int == 0 || i.Int == 1
	case 7:
		return utf8.ValidString(string(i.Data))
	}
	return false
}

func eachSingle(i item) bool {
	for _, kid := range i.Kids {
		if !eachSingle(kid) {
			return false
		}
	}
	return single(i)
}

// right tells what the chapter takes, worked out here.
func right(i item) bool {
	count, depth := tally(i)
	return eachSingle(i) && count <= 600 && depth <= 12 && len(laid(i)) <= 8192
}

// alike is how Same must tell, worked out here.
func alike(a, b item) bool {
	if a.Tag != b.Tag || a.Type != b.Type || a.Int != b.Int || string(a.Data) != string(b.Data) || len(a.Kids) != len(b.Kids) {
		return false
	}
	for k := range a.Kids {
		if !alike(a.Kids[k], b.Kids[k]) {
			return false
		}
	}
	return true
}

func isNone(i item) bool { return alike(i, item{}) }

// scan goes through bytes as the chapter reads them, by places.
type scan struct {
	b     []byte
	at    int
	count int
}

// one answers the item at the place; it ends ahead of end.
func (s *scan) one(end, depth int) (item, api.Errno) {
	if end-s.at < 8 {
		return item{}, api.ErrShort
	}
	if depth > 12 {
		return item{}, api.ErrDeep
	}
	if s.count++; s.count > 600 {
		return item{}, api.ErrForm
	}
	h := s.b[s.at : s.at+8]
	s.at += 8
	i := item{Tag: int(h[0])<<16 + int(h[1])<<8 + int(h[2]), Type: int(h[3])}
	if h[0] != 0x42 && h[0] != 0x54 || h[3] < 1 || h[3] > 10 {
		return item{}, api.ErrForm
	}
	length := int(binary.BigEndian.Uint32(h[4:]))
	if length > end-s.at {
		return item{}, api.ErrShort
	}
	if e := s.inside(&i, length, depth); e != api.OK {
		return item{}, e
	}
	for n := length; n%8 != 0; n++ {
		if s.at == end {
			return item{}, api.ErrShort
		}
		if s.b[s.at] != 0 {
			return item{}, api.ErrPad
		}
		s.at++
	}
	return i, api.OK
}

// inside puts into the item what stands in it.
func (s *scan) inside(i *item, length, depth int) api.Errno {
	in := s.b[s.at : s.at+length]
	if i.Type == 1 {
		for end := s.at + length; s.at < end; {
			kid, e := s.one(end, depth+1)
			if e != api.OK {
				return e
			}
			i.Kids = append(i.Kids, kid)
		}
		return api.OK
	}
	s.at += length
	switch i.Type {
	case 4, 7, 8:
		i.Data = in
		if i.Type == 4 && (length == 0 || length%8 != 0) || i.Type == 7 && !utf8.Valid(in) {
			return api.ErrForm
		}
		return api.OK
	case 2, 5, 10:
		if length != 4 {
			return api.ErrForm
		}
		i.Int = int64(binary.BigEndian.Uint32(in))
		if i.Type == 2 && i.Int >= 1<<31 {
			i.Int -= 1 << 32
		}
		return api.OK
	}
	if length != 8 {
		return api.ErrForm
	}
	i.Int = int64(binary.BigEndian.Uint64(in))
	if i.Type == 6 && i.Int != 0 && i.Int != 1 {
		return api.ErrForm
	}
	return api.OK
}

// read is how the chapter reads the whole, worked out here.
func read(b []byte) (item, api.Errno) {
	if len(b) > 8192 {
		return item{}, api.ErrLong
	}
	s := &scan{b: b}
	i, e := s.one(len(b), 1)
	if e == api.OK && s.at < len(b) {
		return item{}, api.ErrForm
	}
	return i, e
}

// drawer answers numbers below n, the same ones for the same seed.
func drawer(seed uint64) func(n int) int {
	return func(n int) int {
		seed = seed*6364136223846793005 + 1442695040888963407
		return int(seed>>33) % n
	}
}

// drawTag answers one of both ranges, their ends more often than others.
func drawTag(draw func(int) int) int {
	first := []int{0x420000, 0x540000}[draw(2)]
	return first + []int{0, 0xffff, 0x20, draw(0x10000)}[draw(4)]
}

// drawItem answers a right item, so deep at most.
func drawItem(draw func(int) int, depth int) item {
	i := item{Tag: drawTag(draw), Type: 1 + draw(10)}
	wide := int64(uint64(draw(1<<31))<<33 ^ uint64(draw(1<<31))<<10 ^ uint64(draw(1024)))
	switch i.Type {
	case ttlv.Structure:
		for range draw(6) {
			if depth > 1 {
				i.Kids = append(i.Kids, drawItem(draw, depth-1))
			}
		}
	case ttlv.Integer:
		i.Int = []int64{int64(int32(wide)), -1 << 31, 1<<31 - 1, 0, -1}[draw(5)]
	case ttlv.Long, ttlv.Date:
		i.Int = []int64{wide, -1 << 63, 1<<63 - 1, 0, -1}[draw(5)]
	case ttlv.Enum, ttlv.Interval:
		i.Int = []int64{int64(uint32(wide)), 0, 1<<32 - 1}[draw(3)]
	case ttlv.Boolean:
		i.Int = int64(draw(2))
	case ttlv.Big:
		i.Data = drawBytes(draw, 8+8*draw(3))
	case ttlv.Text:
		for range draw(10) {
			i.Data = append(i.Data, []string{"a", "\x00", "ü", "€", "😀", "\uffff", "\x7f"}[draw(7)]...)
		}
	case ttlv.Bytes:
		i.Data = drawBytes(draw, draw(20))
	}
	return i
}

func drawBytes(draw func(int) int, n int) []byte {
	b := make([]byte, n)
	for k := range b {
		b[k] = byte(draw(256))
	}
	return b
}
