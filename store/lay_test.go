package store_test

import (
	"bytes"
	"encoding/binary"
	"slices"
	"strings"
	"testing"

	"locksmith/api"
	"locksmith/store"
)

// TestLayChanges: byte by byte, and back.
func TestLayChanges(t *testing.T) {
	for _, x := range []struct {
		l    []change
		want string
	}{
		{nil, "\x00\x00"},
		{unit(), "\x00\x00"},
		{unit(set("a", "1")), "\x00\x01\x00\x01a\x01\x00\x011"},
		{unit(set("a", "")), "\x00\x01\x00\x01a\x01\x00\x00"},
		{unit(change{Key: "a", Has: true}), "\x00\x01\x00\x01a\x01\x00\x00"},
		{unit(gone("a")), "\x00\x01\x00\x01a\x00"},
		{unit(change{Key: "a", Value: []byte{}}), "\x00\x01\x00\x01a\x00"},
		{unit(set("k", "value"), gone("gone"), set("empty", "")), "\x00\x03\x00\x01k\x01\x00\x05value\x00\x04gone\x00\x00\x05empty\x01\x00\x00"},
		{unit(gone("b"), gone("a"), set("b", "2"), set("b", "1")), "\x00\x04\x00\x01b\x00\x00\x01a\x00\x00\x01b\x01\x00\x012\x00\x01b\x01\x00\x011"},
		{unit(set("\x00", "\x00"), set("\xff\xfe", "\xff")), "\x00\x02\x00\x01\x00\x01\x00\x01\x00\x00\x02\xff\xfe\x01\x00\x01\xff"},
	} {
		b, e := store.LayChanges(x.l)
		if e != api.OK || string(b) != x.want {
			t.Errorf("5.1: LayChanges of %+v: %q, %d, want %q", x.l, b, e, x.want)
		}
		l, e := store.ReadChanges([]byte(x.want))
		if e != api.OK || !sameChanges(l, x.l) {
			t.Errorf("5.1: ReadChanges of %q: %+v, %d, want %+v", x.want, l, e, x.l)
		}
	}
}

// edges are units at the chapter's limits, and just beyond them, as one change
// among others at each place.
func edges() map[string][]change {
	few := map[string]change{
		"a key of no bytes":                set("", "v"),
		"a key of no bytes that is gone":   gone(""),
		"a key of 1 byte":                  set("k", "v"),
		"a key of 99 bytes":                set(strings.Repeat("k", 99), "v"),
		"a key of 100 bytes":               set(strings.Repeat("k", 100), "v"),
		"a key of 100 bytes that is gone":  gone(strings.Repeat("k", 100)),
		"a key of 101 bytes":               set(strings.Repeat("k", 101), "v"),
		"a key of 101 bytes that is gone":  gone(strings.Repeat("k", 101)),
		"a key of 100 bytes, 50 runes":     set(strings.Repeat("é", 50), "v"),
		"a key of 102 bytes, 51 runes":     set(strings.Repeat("é", 51), "v"),
		"a key of 65536 bytes":             set(strings.Repeat("k", 65536), "v"),
		"a key of 65537 bytes":             gone(strings.Repeat("k", 65537)),
		"a value of 65535 bytes":           set("k", strings.Repeat("v", 65535)),
		"a value of 65536 bytes":           set("k", strings.Repeat("v", 65536)),
		"a value of 65537 bytes":           set("k", strings.Repeat("v", 65537)),
		"one that is gone, with a value":   {Key: "k", Value: []byte{0}},
		"one that is gone, 65535 bytes":    {Key: "k", Value: make([]byte, 65535)},
		"one that is gone, an empty value": {Key: "k", Value: []byte{}},
	}
	all := map[string][]change{
		"999 changes":  slices.Repeat(unit(set("k", "v")), 999),
		"1000 changes": slices.Repeat(unit(set("k", "v")), 1000),
		"1001 changes": slices.Repeat(unit(set("k", "v")), 1001),
		"1001 gone":    slices.Repeat(unit(gone("k")), 1001),
		"65536":        slices.Repeat(unit(gone("k")), 65536),
		"65537":        slices.Repeat(unit(set("k", "")), 65537),
	}
	for what, c := range few {
		all[what] = unit(c)
		all[what+", ahead of others"] = unit(c, set("x", "y"), gone("x"))
		all[what+", between others"] = unit(gone("x"), c, set("x", "y"))
		all[what+", behind others"] = unit(set("x", "y"), gone("x"), c)
	}
	return all
}

func TestLayChangesEdges(t *testing.T) {
	for what, l := range edges() {
		b, e := store.LayChanges(l)
		if !right(l) {
			if e != api.ErrArg || b != nil {
				t.Errorf("5.1: %s: %d bytes, %d", what, len(b), e)
			}
			continue
		}
		if e != api.OK || !bytes.Equal(b, laid(l)) {
			t.Errorf("5.1: %s: %d bytes, %d", what, len(b), e)
		}
		back, e := store.ReadChanges(b)
		if e != api.OK || !sameChanges(back, l) {
			t.Errorf("5.1: %s: ReadChanges: %d changes, %d", what, len(back), e)
		}
	}
}

// TestReadChangesEdges: what would be laid of units that may not be.
func TestReadChangesEdges(t *testing.T) {
	for what, l := range edges() {
		long := slices.ContainsFunc(l, func(c change) bool { return len(c.Key) > 65535 || len(c.Value) > 65535 })
		odd := slices.ContainsFunc(l, func(c change) bool { return !c.Has && len(c.Value) > 0 })
		if right(l) || long || odd || len(l) > 65535 {
			continue
		}
		formless(t, what, laid(l))
	}
}

// formless fails unless ReadChanges does not take the bytes.
func formless(t *testing.T, what string, b []byte) {
	t.Helper()
	if l, e := store.ReadChanges(b); e != api.ErrForm || l != nil {
		t.Errorf("5.1: ReadChanges of %s: %d changes, %d", what, len(l), e)
	}
}

// several is a unit with something of all kinds.
func several() []change {
	return unit(set("k", "value"), gone("gone"), set("empty", ""), set(strings.Repeat("K", 100), strings.Repeat("V", 300)), gone("x"))
}

// TestTooFew: at every place, also at the end of a unit that ends with each
// kind of change.
func TestTooFew(t *testing.T) {
	formless(t, "nil", nil)
	for _, l := range [][]change{nil, unit(set("a", "b")), unit(set("a", "")), unit(gone("a")), several(), slices.Repeat(unit(set("k", "")), 1000)} {
		b := laid(l)
		for n := range b {
			formless(t, "too few bytes", b[:n])
		}
	}
}

func TestTooMany(t *testing.T) {
	for _, l := range [][]change{nil, unit(set("a", "b")), unit(set("a", "")), unit(gone("a")), several()} {
		for _, more := range []string{"\x00", "\x01", "\x00\x00", "\x00\x01a\x00", strings.Repeat("\x00", 64)} {
			formless(t, "bytes behind the last change", append(laid(l), more...))
		}
	}
}

// TestMarks: of one that is followed by a value, and of one that is not.
func TestMarks(t *testing.T) {
	for mark := range 256 {
		for _, tail := range []string{"", "\x00\x00", "\x00\x01v", "\x00\x01"} {
			b := []byte("\x00\x01\x00\x01k" + string([]byte{byte(mark)}) + tail)
			switch {
			case mark == 0 && tail == "" || mark == 1 && (tail == "\x00\x00" || tail == "\x00\x01v"):
				if l, e := store.ReadChanges(b); e != api.OK || len(l) != 1 || l[0].Has != (mark == 1) || l[0].Key != "k" {
					t.Errorf("5.1: %q: %+v, %d", b, l, e)
				}
			default:
				formless(t, "a mark", b)
			}
		}
	}
}

// TestCounts: each number of changes ahead of as many, of fewer and of more.
func TestCounts(t *testing.T) {
	for count := range 1 << 16 {
		if count > 5 && count < 995 || count > 1005 && count%777 != 0 && count < 65530 {
			continue
		}
		for _, n := range []int{0, 1, 2, 1000, 1001, count - 1, count, count + 1} {
			if n < 0 || n > count+1 {
				continue
			}
			b := binary.BigEndian.AppendUint16(nil, uint16(count))
			b = append(b, bytes.Repeat([]byte("\x00\x01k\x00"), n)...)
			if n != count || count > 1000 {
				formless(t, "a count", b)
				continue
			}
			if l, e := store.ReadChanges(b); e != api.OK || len(l) != count {
				t.Errorf("5.1: %d changes: %d, %d", count, len(l), e)
			}
		}
	}
}

// TestKeyLengths: each length of a key, with all of its bytes there.
func TestKeyLengths(t *testing.T) {
	for n := range 400 {
		key := strings.Repeat("k", n)
		for _, c := range unit(set(key, "v"), gone(key)) {
			b := laid(unit(c))
			if n == 0 || n > 100 {
				formless(t, "a key's length", b)
				continue
			}
			if l, e := store.ReadChanges(b); e != api.OK || !sameChanges(l, unit(c)) {
				t.Errorf("5.1: a key of %d bytes: %+v, %d", n, l, e)
			}
		}
	}
}

// taken reads the bytes as the chapter says they are laid, worked out here.
func taken(b []byte) ([]change, bool) {
	short := func() (string, bool) {
		if len(b) < 2 || len(b)-2 < int(binary.BigEndian.Uint16(b)) {
			return "", false
		}
		n := int(binary.BigEndian.Uint16(b))
		text := string(b[2 : 2+n])
		b = b[2+n:]
		return text, true
	}
	if len(b) < 2 {
		return nil, false
	}
	count := int(binary.BigEndian.Uint16(b))
	b = b[2:]
	var l []change
	for range count {
		key, ok := short()
		if !ok || len(b) == 0 || b[0] > 1 {
			return nil, false
		}
		c := change{Key: key, Has: b[0] == 1}
		b = b[1:]
		if c.Has {
			value, ok := short()
			if !ok {
				return nil, false
			}
			c.Value = []byte(value)
		}
		l = append(l, c)
	}
	return l, len(b) == 0 && right(l)
}

// reads fails unless ReadChanges is as worked out here, and tells whether the
// bytes are a unit.
func reads(t *testing.T, b []byte) bool {
	t.Helper()
	want, ok := taken(b)
	l, e := store.ReadChanges(b)
	if !ok {
		if e != api.ErrForm || l != nil {
			t.Fatalf("5.1: %q: %+v, %d", b, l, e)
		}
		return false
	}
	if e != api.OK || !sameChanges(l, want) {
		t.Fatalf("5.1: %q: %+v, %d, want %+v", b, l, e, want)
	}
	if back, e := store.LayChanges(l); e != api.OK || !bytes.Equal(back, b) {
		t.Fatalf("5.1: %q: laid again: %q, %d", b, back, e)
	}
	return true
}

// TestEveryString: all that are made of few bytes, up to a length.
func TestEveryString(t *testing.T) {
	units := 0
	var grow func(b []byte)
	grow = func(b []byte) {
		if reads(t, b) {
			units++
		}
		if len(b) == 10 {
			return
		}
		for _, one := range []byte{0, 1, 2} {
			grow(append(b[:len(b):len(b)], one))
		}
	}
	grow(nil)
	if units < 20 {
		t.Errorf("only %d of the strings are units", units)
	}
}

// TestTurnedBytes: each byte of a unit's turned to each other one.
func TestTurnedBytes(t *testing.T) {
	b := laid(unit(set("k", "value"), gone("gone"), set("empty", ""), gone("x")))
	for at := range b {
		for one := range 256 {
			turned := slices.Clone(b)
			turned[at] = byte(one)
			reads(t, turned)
		}
	}
}

// TestDrawnUnits: any units, and what is left of their bytes when some are
// taken out or put in.
func TestDrawnUnits(t *testing.T) {
	for seed := range uint32(300) {
		draw := drawer(seed)
		var l []change
		for range draw(8) {
			c := change{Key: strings.Repeat("k", 1+draw(3)), Has: draw(3) > 0}
			if c.Has {
				c.Value = bytes.Repeat([]byte{byte(draw(4))}, draw(6))
			}
			l = append(l, c)
		}
		b, e := store.LayChanges(l)
		if e != api.OK || !bytes.Equal(b, laid(l)) || !reads(t, b) {
			t.Fatalf("5.1: %+v: %q, %d", l, b, e)
		}
		for range 20 {
			from := draw(len(b))
			to := from + draw(len(b)-from+1)
			reads(t, slices.Concat(b[:from], b[to:]))
			reads(t, slices.Concat(b[:from], []byte{byte(draw(3))}, b[from:]))
			reads(t, slices.Concat(b[:to], b[from:]))
		}
	}
}

// roomy answers the bytes with spare room behind them that is marked.
func roomy(b string) []byte {
	long := append([]byte(b), bytes.Repeat([]byte{0xee}, 16)...)
	return long[:len(b)]
}

// spareIs tells whether the spare room is as roomy made it.
func spareIs(b []byte) bool {
	return bytes.Equal(b[len(b):cap(b)][:16], bytes.Repeat([]byte{0xee}, 16))
}

// TestLayChangesKeepsNothing: R2.
func TestLayChangesKeepsNothing(t *testing.T) {
	value := roomy("value")
	long := []change{{Key: "k", Has: true, Value: value}, gone("gone"), {Key: "spare", Value: []byte("spare")}}
	l := long[:2]
	b, e := store.LayChanges(l)
	fine(t, "5.1: LayChanges", e)
	if string(value) != "value" || !spareIs(value) || long[2].Key != "spare" || string(long[2].Value) != "spare" || !sameChanges(l, unit(set("k", "value"), gone("gone"))) {
		t.Error("R2: LayChanges changed what was handed in")
	}
	want := string(b)
	again, _ := store.LayChanges(l)
	scribble(b)
	if string(again) != want || string(value) != "value" {
		t.Error("R2: what LayChanges answers is not new memory")
	}
	scribble(value)
	if string(again) != want {
		t.Error("R2: LayChanges kept a value")
	}
}

// TestReadChangesKeepsNothing: R2.
func TestReadChangesKeepsNothing(t *testing.T) {
	b := roomy(string(laid(several())))
	l, e := store.ReadChanges(b)
	fine(t, "5.1: ReadChanges", e)
	again, _ := store.ReadChanges(b)
	if !bytes.Equal(b, laid(several())) || !spareIs(b) {
		t.Error("R2: ReadChanges changed what was handed in")
	}
	for i := range l {
		scribble(l[i].Value)
		for k := range l {
			if k > i && !sameChange(l[k], several()[k]) {
				t.Errorf("R2: change %d shares memory with change %d", i, k)
			}
		}
	}
	if !bytes.Equal(b, laid(several())) || !spareIs(b) || !sameChanges(again, several()) {
		t.Error("R2: what ReadChanges answers is not new memory")
	}
	clear(l[:cap(l)])
	scribble(b)
	if !sameChanges(again, several()) {
		t.Error("R2: ReadChanges kept what was handed in")
	}
}

// scribble writes over all bytes, the spare room too.
func scribble(b []byte) {
	b = b[:cap(b)]
	for i := range b {
		b[i] = 0xdd
	}
}

// TestGoneHasNoValue: R3: a field that has no meaning is its zero value.
func TestGoneHasNoValue(t *testing.T) {
	l, e := store.ReadChanges(laid(unit(set("a", "v"), gone("a"))))
	if e != api.OK || len(l) != 2 || len(l[1].Value) != 0 {
		t.Errorf("5.1: %+v, %d", l, e)
	}
}
