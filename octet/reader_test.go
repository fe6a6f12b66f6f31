package octet_test

import (
	"bytes"
	"math"
	"strconv"
	"testing"

	"locksmith/octet"
)

// The calls stand with the signatures that the chapter lists.
var (
	_ func([]byte) *octet.Reader      = octet.NewReader
	_ func(*octet.Reader) int         = (*octet.Reader).U8
	_ func(*octet.Reader) int         = (*octet.Reader).U16
	_ func(*octet.Reader) int64       = (*octet.Reader).U32
	_ func(*octet.Reader) uint64      = (*octet.Reader).U64
	_ func(*octet.Reader, int) []byte = (*octet.Reader).Raw
	_ func(*octet.Reader) []byte      = (*octet.Reader).Short
	_ func(*octet.Reader) bool        = (*octet.Reader).Lack
	_ func(*octet.Reader) int         = (*octet.Reader).Left
)

// taker is one of the calls that take; it answers what was taken as text.
type taker struct {
	what  string
	width int
	take  func(*octet.Reader) string
}

func number(n uint64) string { return strconv.FormatUint(n, 16) }

// takers are all calls that take a known number of bytes off 00 02 .. ones.
func takers() []taker {
	return []taker{
		{"U8", 1, func(r *octet.Reader) string { return number(uint64(r.U8())) }},
		{"U16", 2, func(r *octet.Reader) string { return number(uint64(r.U16())) }},
		{"U32", 4, func(r *octet.Reader) string { return number(uint64(r.U32())) }},
		{"U64", 8, func(r *octet.Reader) string { return number(r.U64()) }},
		{"Raw(0)", 0, func(r *octet.Reader) string { return string(r.Raw(0)) }},
		{"Raw(1)", 1, func(r *octet.Reader) string { return string(r.Raw(1)) }},
		{"Raw(5)", 5, func(r *octet.Reader) string { return string(r.Raw(5)) }},
		{"Short", 4, func(r *octet.Reader) string { return string(r.Short()) }},
	}
}

// stands fails unless r has so many bytes left and does not lack.
func stands(t *testing.T, what string, r *octet.Reader, left int) {
	t.Helper()
	if r.Lack() || r.Left() != left {
		t.Errorf("%s: Lack %v, Left %d, want %d", what, r.Lack(), r.Left(), left)
	}
}

// lacks fails unless r lacks, and goes on to whatever is asked of it.
func lacks(t *testing.T, what string, r *octet.Reader) {
	t.Helper()
	for range 2 {
		if !r.Lack() || r.Left() != 0 {
			t.Errorf("%s: Lack %v, Left %d", what, r.Lack(), r.Left())
		}
		if r.U8() != 0 || r.U16() != 0 || r.U32() != 0 || r.U64() != 0 {
			t.Errorf("%s: a number that is not 0", what)
		}
		for _, n := range []int{0, 1, -1, math.MaxInt, math.MinInt} {
			if len(r.Raw(n)) != 0 || !r.Lack() || r.Left() != 0 {
				t.Errorf("%s: Raw(%d)", what, n)
			}
		}
		if len(r.Short()) != 0 {
			t.Errorf("%s: Short", what)
		}
	}
}

func TestReaderAtTheFront(t *testing.T) {
	all := []byte{0, 2, 0xf3, 0x84, 5, 6, 7, 8, 9, 10}
	want := []string{"0", "2", "2f384", "2f38405060708", "", "\x00", "\x00\x02\xf3\x84\x05", "\xf3\x84"}
	for i, c := range takers() {
		r := octet.NewReader(all)
		stands(t, "1.2: at first", r, len(all))
		if got := c.take(r); got != want[i] {
			t.Errorf("1.2: %s: %q, want %q", c.what, got, want[i])
		}
		stands(t, "1.2: behind "+c.what, r, len(all)-c.width)
	}
}

// TestReaderAtTheEnd: with just as many bytes as are needed nothing lacks;
// with any fewer it does; what is asked behind the end lacks, but Raw(0).
func TestReaderAtTheEnd(t *testing.T) {
	all := []byte{0, 2, 3, 4, 5, 6, 7, 8}
	for _, c := range takers() {
		want := c.take(octet.NewReader(all))
		r := octet.NewReader(all[:c.width])
		if got := c.take(r); got != want {
			t.Errorf("1.2: %s at the end: %q, want %q", c.what, got, want)
		}
		stands(t, "1.2: behind "+c.what+" at the end", r, 0)
		if len(r.Raw(0)) != 0 {
			t.Error("1.2: Raw(0) at the end")
		}
		stands(t, "1.2: Raw(0) at the end", r, 0)
		for n := range c.width {
			short := octet.NewReader(all[:n])
			if got := c.take(short); got != "" && got != "0" {
				t.Errorf("1.2: %s of %d bytes: %q", c.what, n, got)
			}
			lacks(t, "1.2: "+c.what+" of "+strconv.Itoa(n)+" bytes", short)
		}
	}
}

func TestReaderOfNone(t *testing.T) {
	for _, b := range [][]byte{nil, {}} {
		r := octet.NewReader(b)
		stands(t, "1.2: of no bytes", r, 0)
		if r.U8() != 0 {
			t.Error("1.2: U8 of no bytes")
		}
		lacks(t, "1.2: of no bytes", r)
	}
}

func TestReaderHighNumbers(t *testing.T) {
	r := octet.NewReader(bytes.Repeat([]byte{255}, 15))
	if r.U8() != 255 || r.U16() != 65535 || r.U32() != 1<<32-1 || r.U64() != math.MaxUint64 {
		t.Error("1.2: the greatest numbers")
	}
	stands(t, "1.2: the greatest numbers", r, 0)
}

func TestReaderRawCounts(t *testing.T) {
	for _, n := range []int{-1, -2, math.MinInt, 4, 5, 1 << 32, math.MaxInt} {
		r := octet.NewReader([]byte{1, 2, 3})
		if got := r.Raw(n); len(got) != 0 {
			t.Errorf("1.2: Raw(%d): %x", n, got)
		}
		lacks(t, "1.2: Raw("+strconv.Itoa(n)+")", r)
	}
	for n := range 4 {
		r := octet.NewReader([]byte{1, 2, 3})
		if got := r.Raw(n); !bytes.Equal(got, []byte{1, 2, 3}[:n]) {
			t.Errorf("1.2: Raw(%d): %x", n, got)
		}
		stands(t, "1.2: Raw("+strconv.Itoa(n)+")", r, 3-n)
	}
	r := octet.NewReader([]byte{1, 2, 3})
	r.U8()
	if len(r.Raw(3)) != 0 {
		t.Error("1.2: Raw of more than is left behind what was taken")
	}
	lacks(t, "1.2: Raw of more than is left behind what was taken", r)
}

func TestReaderShort(t *testing.T) {
	long := bytes.Repeat([]byte{7}, 65535)
	for _, c := range []struct {
		what       string
		all        []byte
		want       string
		left       int
		itMustLack bool
	}{
		{"of no bytes", []byte{0, 0}, "", 0, false},
		{"of no bytes, with one behind", []byte{0, 0, 1}, "", 1, false},
		{"of two, with one behind", []byte{0, 2, 'a', 'b', 'c'}, "ab", 1, false},
		{"of the greatest length", append([]byte{255, 255}, long...), string(long), 0, false},
		{"no length", nil, "", 0, true},
		{"a cut length", []byte{0}, "", 0, true},
		{"no bytes behind a length", []byte{0, 1}, "", 0, true},
		{"one byte too few", []byte{0, 3, 'a', 'b'}, "", 0, true},
		{"the high byte counts", []byte{1, 0, 'a'}, "", 0, true},
		{"one byte too few of the greatest length", append([]byte{255, 255}, long[1:]...), "", 0, true},
	} {
		r := octet.NewReader(c.all)
		if got := r.Short(); string(got) != c.want {
			t.Errorf("1.2: Short, %s: %d bytes", c.what, len(got))
		}
		if c.itMustLack {
			lacks(t, "1.2: Short, "+c.what, r)
		} else {
			stands(t, "1.2: Short, "+c.what, r, c.left)
		}
	}
}

// TestReaderReadsWhatWasLaid: a Reader takes back what a Writer laid.
func TestReaderReadsWhatWasLaid(t *testing.T) {
	w := octet.NewWriter()
	w.U8(200)
	w.U64(1<<63 + 5)
	w.Short([]byte("key"))
	w.U32(-2)
	w.Raw([]byte{1, 2, 3})
	w.U16(-2)
	w.Short(nil)
	r := octet.NewReader(w.Bytes())
	stands(t, "1.2: at first", r, w.Len())
	if r.U8() != 200 || r.U64() != 1<<63+5 || string(r.Short()) != "key" || r.U32() != 1<<32-2 {
		t.Error("1.2: the first four")
	}
	if !bytes.Equal(r.Raw(3), []byte{1, 2, 3}) || r.U16() != 65534 || len(r.Short()) != 0 {
		t.Error("1.2: the last three")
	}
	stands(t, "1.2: at the end", r, 0)
}

// TestReaderMethodsAsValues: a method may be handed on to what reads lists.
func TestReaderMethodsAsValues(t *testing.T) {
	r := octet.NewReader([]byte{2, 0, 1, 'a', 0, 2, 'b', 'c', 9, 8})
	if got := readList(r, r.Short); len(got) != 2 || string(got[0]) != "a" || string(got[1]) != "bc" {
		t.Errorf("Ways: Short as a value: %q", got)
	}
	if r.U16() != 0x908 || r.Lack() {
		t.Error("Ways: behind a list")
	}
}

func readList[T any](r *octet.Reader, one func() T) []T {
	var all []T
	for range r.U8() {
		all = append(all, one())
	}
	return all
}

func TestReaderNeitherChangesNorKeepsWhatComesIn(t *testing.T) {
	room := []byte{0, 2, 'a', 'b', 5, 6, 7, 8}
	r := octet.NewReader(room[:5])
	stands(t, "R2: the spare room is not read", r, 5)
	spoil(r.Short())
	if !bytes.Equal(room, []byte{0, 2, 'a', 'b', 5, 6, 7, 8}) {
		t.Errorf("R2: the argument is changed: %x", room)
	}
	clear(room)
	if got := r.Raw(1); !bytes.Equal(got, []byte{5}) {
		t.Errorf("R2: the argument is kept: %x", got)
	}
}

func TestReaderAnswersNewMemory(t *testing.T) {
	r := octet.NewReader([]byte{1, 2, 0, 2, 'a', 'b', 3, 4})
	raw := r.Raw(2)
	spoil(raw)
	short := r.Short()
	if string(short) != "ab" {
		t.Errorf("R2: Raw's answer is shared: %q", short)
	}
	spoil(short)
	last := r.Raw(2)
	if !bytes.Equal(last, []byte{3, 4}) {
		t.Errorf("R2: Short's answer is shared: %x", last)
	}
	spoil(r.Raw(0))
	if !bytes.Equal(last, []byte{3, 4}) || short[0] != 0xee || raw[0] != 0xee {
		t.Error("R2: two answers share memory")
	}
}

func TestReadersKnowNothingOfOneAnother(t *testing.T) {
	all := []byte{1, 2, 3}
	a, b := octet.NewReader(all), octet.NewReader(all)
	a.U32()
	lacks(t, "R7: one", a)
	if b.U8() != 1 {
		t.Error("R7: the other takes something else")
	}
	stands(t, "R7: the other", b, 2)
}
