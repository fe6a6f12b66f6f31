package object_test

import (
	"encoding/binary"
	"encoding/hex"
	"reflect"
	"strings"
	"testing"
	"unicode/utf8"

	"locksmith/api"
	"locksmith/object"
)

// The calls stand with the signatures that the chapter lists.
var (
	_ func(api.Object) bool                = object.Right
	_ func(api.Object) ([]byte, api.Errno) = object.Lay
	_ func([]byte) (api.Object, api.Errno) = object.Read
	_ func(a, b api.Object) bool           = object.Same
	_ func(api.Object) api.Object          = object.Copy
	_ func(string) bool                    = object.IsText
	_ func(string) bool                    = object.IsCustom
)

const (
	high = 1 << 40  // of dates and totals
	low  = -1 << 40 // of dates
)

// drawer answers a source of numbers from 0 to below n in no plain order, the
// same for the same seed.
func drawer(seed uint64) func(n int) int {
	return func(n int) int {
		seed = seed*6364136223846793005 + 1442695040888963407
		return int((seed >> 20) % uint64(n))
	}
}

// letters answers a text of so many bytes.
func letters(n int) string { return strings.Repeat("a", n) }

// plain is an object that has nothing but what it must have.
func plain() api.Object {
	return api.Object{Id: "x", Type: api.Secret, State: api.PreActive}
}

// full is an object that has all that one may have, no two dates of it alike.
func full() api.Object {
	o := api.Object{
		Id: "grün", Type: api.Symmetric, Algorithm: 3, Length: 0x0102, Mask: 0x0a0b0c,
		Material: []byte{9, 0, 255, 7}, State: api.Both, Reason: 5, Message: "why",
		Names:    []string{"ab", "a", "b"},
		Links:    []api.Link{{Type: 101, Id: "8"}, {Type: 110, Id: "8"}, {Type: 101, Id: "9"}},
		Custom:   []api.Custom{{Name: "x-a", Text: "1"}, {Name: "x-b", Text: "1"}, {Name: "x-a", Text: "2"}},
		Limits:   api.Limits{Has: true, Total: 0x01020304, Count: 0x0506, Unit: 2},
		Archived: true,
	}
	for i := range o.Dates {
		o.Dates[i] = api.Date{Has: true, At: int64(i+1) << (4 * i)}
	}
	o.Dates[api.Deactivation].At = -2
	return o
}

// most is an object of which each part is as great as it may be.
func most() api.Object {
	o := api.Object{
		Id: letters(120), Type: api.Private, Algorithm: 100, Length: 100000, Mask: 0xfffff,
		Material: make([]byte, 128), State: api.Both, Reason: 7, Message: letters(120),
		Limits: api.Limits{Has: true, Total: high, Count: high, Unit: 2}, Archived: true,
	}
	for i := range o.Dates {
		o.Dates[i] = api.Date{Has: true, At: high}
	}
	for i := range byte(6) {
		o.Names = append(o.Names, letters(119)+string('0'+rune(i)))
		o.Custom = append(o.Custom, api.Custom{Name: "x-" + letters(118), Text: letters(119) + string('0'+rune(i))})
	}
	for i := range 8 {
		o.Links = append(o.Links, api.Link{Type: 103 + i, Id: letters(120)})
	}
	return o
}

// short lays a text as the chapter says.
func short(s string) []byte {
	return append(binary.BigEndian.AppendUint16(nil, uint16(len(s))), s...)
}

// moment lays a date.
func moment(d api.Date) []byte {
	if !d.Has {
		return []byte{0}
	}
	return binary.BigEndian.AppendUint64([]byte{1}, uint64(d.At))
}

// laid is how the chapter lays an object, worked out here. It lays those that
// are not right, too, as far as their numbers have room.
func laid(o api.Object) []byte {
	b := append(short(o.Id), byte(o.Type), byte(o.Algorithm))
	b = binary.BigEndian.AppendUint32(b, uint32(o.Length))
	b = binary.BigEndian.AppendUint32(b, uint32(o.Mask))
	b = append(append(b, short(string(o.Material))...), byte(o.State))
	for i := 0; i < 10; i++ {
		b = append(b, moment(o.Dates[i])...)
	}
	b = append(append(b, byte(o.Reason)), short(o.Message)...)
	b = append(b, byte(len(o.Names)))
	for _, n := range o.Names {
		b = append(b, short(n)...)
	}
	b = append(b, byte(len(o.Links)))
	for _, l := range o.Links {
		b = append(append(b, byte(l.Type)), short(l.Id)...)
	}
	b = append(b, byte(len(o.Custom)))
	for _, c := range o.Custom {
		b = append(append(b, short(c.Name)...), short(c.Text)...)
	}
	if !o.Limits.Has {
		b = append(b, 0)
	} else {
		b = binary.BigEndian.AppendUint64(append(b, 1), uint64(o.Limits.Total))
		b = append(binary.BigEndian.AppendUint64(b, uint64(o.Limits.Count)), byte(o.Limits.Unit))
	}
	if o.Archived {
		return append(b, 1)
	}
	return append(b, 0)
}

// text tells what a text is, worked out here.
func text(s string) bool {
	return s != "" && len(s) < 121 && string([]rune(s)) == s
}

// twice tells whether a part stands in the list more than once.
func twice[T comparable](all []T) bool {
	seen := map[T]bool{}
	for _, part := range all {
		seen[part] = true
	}
	return len(seen) < len(all)
}

// right tells what the chapter takes, worked out here.
func right(o api.Object) bool {
	ok := text(o.Id) && (o.Type == 2 || o.Type == 3 || o.Type == 4 || o.Type == 7)
	ok = ok && uint(o.Algorithm) < 101 && uint(o.Length) < 100001 && uint(o.Mask) < 1<<20
	ok = ok && len(o.Material) < 129 && uint(o.State-1) < 6 && uint(o.Reason) < 8
	for _, d := range o.Dates {
		ok = ok && (d.Has && d.At+high >= 0 && d.At-high <= 0 && d.At != -1<<63 || d == api.Date{})
	}
	ok = ok && (o.Message == "" || o.Reason != 0 && text(o.Message))
	ok = ok && len(o.Names) < 7 && len(o.Links) < 9 && len(o.Custom) < 7
	ok = ok && !twice(o.Names) && !twice(o.Links) && !twice(o.Custom)
	for _, n := range o.Names {
		ok = ok && text(n)
	}
	for _, l := range o.Links {
		ok = ok && uint(l.Type-101) < 10 && text(l.Id)
	}
	for _, c := range o.Custom {
		ok = ok && text(c.Name) && text(c.Text) && len(c.Name) > 1 && c.Name[:2] == "x-"
	}
	if !o.Limits.Has {
		return ok && o.Limits == api.Limits{}
	}
	l := o.Limits
	return ok && l.Total > 0 && l.Total < high+1 && l.Count > -1 && l.Count < l.Total+1 && (l.Unit == 1 || l.Unit == 2)
}

// tidy answers the object with nil in the place of each empty list.
func tidy(o api.Object) api.Object {
	if len(o.Material) == 0 {
		o.Material = nil
	}
	if len(o.Names) == 0 {
		o.Names = nil
	}
	if len(o.Links) == 0 {
		o.Links = nil
	}
	if len(o.Custom) == 0 {
		o.Custom = nil
	}
	return o
}

// alike is how Same must tell, worked out here.
func alike(a, b api.Object) bool { return reflect.DeepEqual(tidy(a), tidy(b)) }

// isNone tells whether it is the zero object, its lists nil.
func isNone(o api.Object) bool { return reflect.DeepEqual(o, api.Object{}) }

// scan goes through bytes as the chapter reads them, by places.
type scan struct {
	b   []byte
	bad bool
}

func (s *scan) next(n int) []byte {
	if s.bad || n > len(s.b) {
		s.bad = true
		return make([]byte, n)
	}
	part := s.b[:n]
	s.b = s.b[n:]
	return part
}

func (s *scan) small() int { return int(s.next(1)[0]) }

func (s *scan) middle() int { return int(binary.BigEndian.Uint32(s.next(4))) }

func (s *scan) great() int64 { return int64(binary.BigEndian.Uint64(s.next(8))) }

func (s *scan) short() string { return string(s.next(int(binary.BigEndian.Uint16(s.next(2))))) }

func (s *scan) bit() bool {
	n := s.small()
	s.bad = s.bad || n > 1
	return n == 1
}

// read is how the chapter reads, worked out here.
func read(b []byte) (api.Object, bool) {
	s := &scan{b: b}
	var o api.Object
	o.Id = s.short()
	o.Type, o.Algorithm = s.small(), s.small()
	o.Length, o.Mask = s.middle(), s.middle()
	o.Material, o.State = []byte(s.short()), s.small()
	for i := range o.Dates {
		if o.Dates[i].Has = s.bit(); o.Dates[i].Has {
			o.Dates[i].At = s.great()
		}
	}
	o.Reason = s.small()
	o.Message = s.short()
	for n := s.small(); n > 0 && !s.bad; n-- {
		o.Names = append(o.Names, s.short())
	}
	for n := s.small(); n > 0 && !s.bad; n-- {
		o.Links = append(o.Links, api.Link{Type: s.small()})
		o.Links[len(o.Links)-1].Id = s.short()
	}
	for n := s.small(); n > 0 && !s.bad; n-- {
		o.Custom = append(o.Custom, api.Custom{Name: s.short()})
		o.Custom[len(o.Custom)-1].Text = s.short()
	}
	if o.Limits.Has = s.bit(); o.Limits.Has {
		o.Limits.Total = s.great()
		o.Limits.Count = s.great()
		o.Limits.Unit = s.small()
	}
	o.Archived = s.bit()
	if s.bad || len(s.b) > 0 || !right(o) {
		return api.Object{}, false
	}
	return o, true
}

// raw answers the bytes of hex digits, blanks passed over.
func raw(t *testing.T, s string) []byte {
	t.Helper()
	b, e := hex.DecodeString(strings.Join(strings.Fields(s), ""))
	if e != nil {
		t.Fatal(e)
	}
	return b
}

// checkTaken holds that o is right, is laid as b, and that b is read as o.
func checkTaken(t *testing.T, what string, o api.Object, b []byte) {
	t.Helper()
	if !right(o) {
		t.Fatalf("%s: the test's own rules refuse %+v", what, o)
	}
	if !object.Right(o) {
		t.Errorf("10.1: %s: not right: %+v", what, o)
	}
	if got, e := object.Lay(o); e != api.OK || string(got) != string(b) {
		t.Errorf("10.2: %s: Lay: %d, %x, want %x", what, e, got, b)
	}
	if got, e := object.Read(b); e != api.OK || !alike(got, o) || !object.Same(got, o) {
		t.Errorf("10.2: %s: Read: %d, %+v, want %+v", what, e, got, o)
	}
}

// checkWrong holds that o is not right, and is not laid.
func checkWrong(t *testing.T, what string, o api.Object) {
	t.Helper()
	if right(o) {
		t.Fatalf("%s: the test's own rules take %+v", what, o)
	}
	if object.Right(o) {
		t.Errorf("10.1: %s: right: %+v", what, o)
	}
	if b, e := object.Lay(o); e != api.ErrArg || b != nil {
		t.Errorf("10.2: %s: Lay: %d, not ErrArg; beside it %x", what, e, b)
	}
}

// checkRefused holds that b is no object's.
func checkRefused(t *testing.T, what string, b []byte) {
	t.Helper()
	if _, ok := read(b); ok {
		t.Fatalf("%s: the test's own reader takes %x", what, b)
	}
	o, e := object.Read(b)
	if e != api.ErrForm {
		t.Errorf("10.2: %s: Read: %d, not ErrForm: %x", what, e, b)
	}
	if !isNone(o) {
		t.Errorf("R3: %s: Read: beside %d %+v", what, e, o)
	}
}

// compare holds what Read answers of b against what is worked out here, and
// tells whether it was taken.
func compare(t *testing.T, what string, b []byte) bool {
	t.Helper()
	o, ok := read(b)
	if !ok {
		checkRefused(t, what, b)
		return false
	}
	checkTaken(t, what, o, b)
	return true
}

// drawText draws a text of at most so many bytes; empty now and then only where
// none is not 0.
func drawText(draw func(int) int, none int) string {
	if none > 0 && draw(none) == 0 {
		return ""
	}
	if draw(8) == 0 {
		return letters(113 + draw(8))
	}
	signs := []string{"a", "b", "-", "\x00", "é", "€", "\U0001f511", "\x7f", "\u0080", "\ufffd"}
	s := signs[draw(len(signs))]
	for draw(3) > 0 && len(s) < 110 {
		s += signs[draw(len(signs))]
	}
	if !utf8.ValidString(s) || len(s) > 120 {
		panic("what is drawn is no text")
	}
	return s
}

// drawNumber draws a number from low to high, the bounds themselves often.
func drawNumber(draw func(int) int, low, high int) int {
	switch draw(4) {
	case 0:
		return low
	case 1:
		return high
	}
	return low + draw(high-low+1)
}

// drawObject draws a right object.
func drawObject(draw func(int) int) api.Object {
	o := api.Object{
		Id: drawText(draw, 0), Type: []int{2, 3, 4, 7}[draw(4)], Algorithm: drawNumber(draw, 0, 100),
		Length: drawNumber(draw, 0, 100000), Mask: drawNumber(draw, 0, 0xfffff), State: 1 + draw(6),
		Reason: draw(8), Archived: draw(2) == 0,
	}
	for range draw(2) * drawNumber(draw, 0, 128) {
		o.Material = append(o.Material, byte(draw(256)))
	}
	for i := range o.Dates {
		if draw(2) == 0 {
			o.Dates[i] = api.Date{Has: true, At: int64(drawNumber(draw, low, high))}
		}
	}
	if o.Reason != 0 {
		o.Message = drawText(draw, 3)
	}
	drawLists(draw, &o)
	if draw(2) == 0 {
		total := drawNumber(draw, 1, high)
		o.Limits = api.Limits{Has: true, Total: int64(total), Count: int64(drawNumber(draw, 0, total)), Unit: 1 + draw(2)}
	}
	return o
}

// drawLists draws the lists of a right object: what would stand there twice is
// passed over.
func drawLists(draw func(int) int, o *api.Object) {
	for range draw(7) {
		if all := append(o.Names, drawText(draw, 0)); !twice(all) {
			o.Names = all
		}
	}
	for range draw(9) {
		if all := append(o.Links, api.Link{Type: drawNumber(draw, 101, 110), Id: drawText(draw, 0)}); !twice(all) {
			o.Links = all
		}
	}
	for range draw(7) {
		name := "x-" + drawText(draw, 2)
		if all := append(o.Custom, api.Custom{Name: name, Text: drawText(draw, 0)}); len(name) <= 120 && !twice(all) {
			o.Custom = all
		}
	}
}
