package store_test

import (
	"slices"
	"strings"
	"testing"

	"locksmith/api"
	"locksmith/disk"
	"locksmith/store"
	"locksmith/wal"
)

// logged answers a disk whose log has just these units, laid or not.
func logged(t *testing.T, units ...[]byte) *disk.Disk {
	t.Helper()
	d := newDisk(t, 200)
	l, _, e := wal.Open(d)
	fine(t, "wal.Open", e)
	fine(t, "wal.Append", l.Append(units))
	return d
}

func TestOpenOfNil(t *testing.T) { refuses(t, "5.2: nil", nil, api.ErrArg) }

func TestOpenOfANewDisk(t *testing.T) {
	for _, sectors := range []int{api.MinSectors, 9, 100, api.MaxSectors} {
		d := newDisk(t, sectors)
		was := look(d)
		s := opens(t, "5.2: a new disk", d, pairs{}, 0)
		untouched(t, "5.2: Open", d, was)
		if len(s.Keys()) != 0 || s.Units() != 0 || s.Dead() {
			t.Errorf("5.2: a new disk: %q, %d units, dead %t", s.Keys(), s.Units(), s.Dead())
		}
		if value, ok := s.Get("a"); ok || value != nil {
			t.Errorf("5.2: Get from a new store: %q, %t", value, ok)
		}
	}
}

func TestOpenOfADiskThatIsDown(t *testing.T) {
	d := logged(t, laid(unit(set("a", "1"))))
	d.Fuse(0)
	d.Flush()
	refuses(t, "5.2: a disk that is down", d, api.ErrDown)
	d.Crash(nil)
	opens(t, "5.2: a disk that was down", d, pairs{"a": "1"}, 1)
	bad := logged(t, []byte("none"))
	bad.Fuse(0)
	bad.Flush()
	refuses(t, "5.2: a disk that is down, ahead of all that is on it", bad, api.ErrDown)
}

// TestOpenOfALogThatCantBeRead: a sector that is bad, and one that was turned.
func TestOpenOfALogThatCantBeRead(t *testing.T) {
	units := [][]byte{laid(unit(set("a", "1"))), laid(unit(set("b", strings.Repeat("v", 100)))), laid(unit(gone("a")))}
	for at := 2; at < 6; at++ {
		d := logged(t, units...)
		fine(t, "disk.Write", d.Write(at, make([]byte, api.Sector)))
		d.Crash([]int{2})
		refuses(t, "5.2: a sector that can't be read", d, api.ErrForm)
		d = logged(t, units...)
		sector, e := d.Read(at)
		fine(t, "disk.Read", e)
		sector[api.Sector-1]++
		fine(t, "disk.Write", d.Write(at, sector))
		refuses(t, "5.2: a sector that was turned", d, api.ErrForm)
	}
}

// TestOpenOfOddUnits: one that ReadChanges does not take, at each place.
func TestOpenOfOddUnits(t *testing.T) {
	right := laid(unit(set("a", "1")))
	for _, odd := range []string{
		"", "\x00", "none", "\x00\x00\x00", "\x00\x01", "\x00\x01\x00\x00\x00", "\x00\x01\x00\x01k\x02", "\x00\x02\x00\x01k\x00",
		string(laid(unit(gone(strings.Repeat("k", 101))))), string(laid(slices.Repeat(unit(gone("k")), 1001))),
	} {
		for at := range 3 {
			units := slices.Insert([][]byte{right, right}, at, []byte(odd))
			refuses(t, "5.2: an odd unit", logged(t, units...), api.ErrForm)
		}
	}
}

// TestUnitsOneBehindTheOther: set, set again, gone, set anew.
func TestUnitsOneBehindTheOther(t *testing.T) {
	steps := []struct {
		unit []change
		want pairs
	}{
		{unit(set("a", "1")), pairs{"a": "1"}},
		{unit(set("a", "2"), set("b", "x")), pairs{"a": "2", "b": "x"}},
		{unit(gone("a")), pairs{"b": "x"}},
		{unit(gone("a"), gone("never")), pairs{"b": "x"}},
		{unit(set("a", "3")), pairs{"a": "3", "b": "x"}},
		{unit(set("a", "")), pairs{"a": "", "b": "x"}},
		{unit(), pairs{"a": "", "b": "x"}},
		{unit(gone("a"), set("a", "4"), gone("b"), set("c", "y"), gone("c")), pairs{"a": "4"}},
		{unit(set("a", "5"), set("a", "6"), gone("a")), pairs{}},
		{unit(set("z", "1"), set("y", "2")), pairs{"y": "2", "z": "1"}},
	}
	var units [][]byte
	for i, step := range steps {
		units = append(units, laid(step.unit))
		opens(t, "5.2: units one behind the other", logged(t, units...), step.want, i+1)
	}
}

// TestGet: of keys that are there, that are gone, that never were.
func TestGet(t *testing.T) {
	s := opened(t, "5.2", logged(t, laid(unit(set("a", "1"), set("b", ""), set("c", "3"), gone("c")))))
	for key, want := range map[string]string{"a": "1", "b": ""} {
		if value, ok := s.Get(key); !ok || string(value) != want {
			t.Errorf("5.2: Get of %q: %q, %t, want %q", key, value, ok, want)
		}
	}
	for _, key := range []string{"c", "d", "", "A", "aa", "a\x00", strings.Repeat("a", 101)} {
		if value, ok := s.Get(key); ok || value != nil {
			t.Errorf("5.2: Get of %q: %q, %t, want none", key, value, ok)
		}
	}
}

// TestKeysRise: byte by byte, in whatever order they were set.
func TestKeysRise(t *testing.T) {
	want := []string{"\x00", "\x00\x00", "\x01", " ", "1", "10", "2", "9", "A", "AB", "Z", "a", "a\x00", "aa", "ab", "b", "z", "é", "\xf0", "\xff", "\xff\x00", "\xff\xff"}
	for seed := range uint32(50) {
		draw := drawer(seed)
		keys := slices.Clone(want)
		for i := range keys {
			k := draw(i + 1)
			keys[i], keys[k] = keys[k], keys[i]
		}
		var l []change
		for _, key := range keys {
			l = append(l, set(key, "v"))
		}
		s := opened(t, "5.2", logged(t, laid(l)))
		for range 3 {
			if got := s.Keys(); !slices.Equal(got, want) {
				t.Fatalf("5.2: Keys: %q, want %q", got, want)
			}
		}
	}
}

// TestManyKeys: more than one unit may have.
func TestManyKeys(t *testing.T) {
	d := newDisk(t, api.MaxSectors)
	s := opened(t, "5.2", d)
	want := pairs{}
	for _, name := range []string{"z", "m", "a"} {
		l := sets(1000, 1, name)
		want = behind(want, l)
		if n, e := s.Commit([][]change{l}); n != 1 || e != api.OK {
			t.Fatalf("5.3: Commit of 1000 changes: %d, %d", n, e)
		}
	}
	tells(t, "5.2: many keys", s, want, 3)
	opens(t, "5.2: many keys", d, want, 3)
}

// TestAnswersAreNewMemory: R2, of Get and Keys.
func TestAnswersAreNewMemory(t *testing.T) {
	s := opened(t, "5.2", logged(t, laid(unit(set("a", "one"), set("b", "two"), set("c", "")))))
	want := pairs{"a": "one", "b": "two", "c": ""}
	for range 2 {
		for _, key := range s.Keys() {
			first, _ := s.Get(key)
			second, _ := s.Get(key)
			scribble(first)
			if string(second) != want[key] {
				t.Errorf("R2: two answers of Get of %q share memory", key)
			}
			_ = append(first, "more"...)
			keys := s.Keys()
			clear(keys[:cap(keys)])
			_ = append(keys[:0], "x", "y", "z")
		}
		tells(t, "R2: answers that were written over", s, want, 1)
	}
}

// TestStoresKnowNothingOfOneAnother: R7.
func TestStoresKnowNothingOfOneAnother(t *testing.T) {
	_, one, m := made(t, 20)
	d, two, _ := made(t, 20)
	for i := range 30 {
		l := unit(set(strings.Repeat("k", 1+i%3), strings.Repeat("v", i)))
		if n, e := one.Commit([][]change{l}); n != 1 || e != api.OK {
			t.Fatalf("5.3: Commit: %d, %d", n, e)
		}
		m.one(l)
	}
	tells(t, "R7", two, pairs{}, 0)
	d.Fuse(0)
	if n, e := two.Commit([][]change{unit(set("a", "1"))}); n != 0 || e != api.ErrDown {
		t.Fatalf("5.3: Commit: %d, %d", n, e)
	}
	tells(t, "R7", one, m.pairs, len(m.units))
	if one.Dead() || !two.Dead() || !one.Fits([][]change{unit(set("a", "1"))}) {
		t.Errorf("R7: dead %t, %t", one.Dead(), two.Dead())
	}
}

// TestExample: the chapter's.
func TestExample(t *testing.T) {
	d, s, _ := made(t, 8)
	if n, e := s.Commit([][]change{{{Key: "a", Has: true, Value: []byte("1")}}}); n != 1 || e != api.OK {
		t.Fatalf("5.3: the chapter's example: %d, %d", n, e)
	}
	d.Crash(nil)
	s, e := store.Open(d)
	fine(t, "5.2: the chapter's example", e)
	if value, ok := s.Get("a"); !ok || string(value) != "1" {
		t.Errorf("5.2: the chapter's example: %q, %t", value, ok)
	}
}
