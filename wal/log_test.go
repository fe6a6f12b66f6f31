package wal_test

import (
	"bytes"
	"math"
	"testing"

	"locksmith/api"
	"locksmith/wal"
)

func TestExamples(t *testing.T) {
	_, l := made(t, 8)
	if l.Half() != 3 || l.Room() != 3 {
		t.Errorf("4.3: the chapter's first example: Half %d, Room %d", l.Half(), l.Room())
	}
	fine(t, "4.3: Append", l.Append([][]byte{mixed(56, 1)}))
	if l.Room() != 2 {
		t.Errorf("4.3: the chapter's second example: 56 bytes: Room %d", l.Room())
	}
	fine(t, "4.3: Append", l.Append([][]byte{mixed(57, 1)}))
	if l.Room() != 0 {
		t.Errorf("4.3: the chapter's second example: 57 bytes: Room %d", l.Room())
	}
}

func TestAppendOfNone(t *testing.T) {
	d, l := made(t, 8)
	for i, full := range []bool{false, true} {
		was, h := look(d), l.Head()
		fine(t, "4.3: Append of nil", l.Append(nil))
		fine(t, "4.3: Append of no units", l.Append([][]byte{}))
		untouched(t, "4.3: Append of no units", d, was)
		tells(t, "4.3: Append of no units", l, h, 3, false)
		if !full {
			fine(t, "4.3: Append", l.Append([][]byte{mixed(184, i)}))
		}
	}
}

// TestAppendOfNoneOnADiskThatIsDown: nothing is asked of the disk.
func TestAppendOfNoneOnADiskThatIsDown(t *testing.T) {
	d, l := made(t, 8)
	d.Fuse(0)
	d.Flush()
	fine(t, "4.3: Append of no units", l.Append(nil))
	tells(t, "4.3: Append of no units", l, wal.Head{}, 3, false)
	if e := l.Append([][]byte{mixed(185, 1)}); e != api.ErrFull || l.Dead() {
		t.Errorf("4.3: Append of too much: %d, dead %t", e, l.Dead())
	}
	if e := l.Reset(mixed(185, 1)); e != api.ErrFull || l.Dead() {
		t.Errorf("4.3: Reset to too much: %d, dead %t", e, l.Dead())
	}
	d.Crash(nil)
	fine(t, "4.3: Append", l.Append(texts("one")))
	opens(t, "4.3: Append", d, []byte("one"))
}

// TestAppend: one, several, empty ones, large ones, one behind the other.
func TestAppend(t *testing.T) {
	d, l := made(t, 40)
	var want [][]byte
	h := wal.Head{}
	for i, sizes := range [][]int{{5}, {0}, {56, 57}, {0, 0, 0}, {200}, {1, 120, 3}} {
		var units [][]byte
		var sectors []byte
		for k, n := range sizes {
			units = append(units, mixed(n, i+k))
			sectors = append(sectors, laid(units[k])...)
		}
		works := d.Works()
		fine(t, "4.3: Append", l.Append(units))
		has(t, "4.3: Append's sectors", d, 2+h.Used, sectors)
		h.Epoch++
		h.Used += len(sectors) / api.Sector
		tells(t, "4.3: Append", l, h, 19, false)
		has(t, "4.3: Append's head", d, i%2, head(h.Epoch, 0, uint32(h.Used)))
		if got := d.Works() - works; got != len(sectors)/api.Sector+3 || len(d.Pending()) != 0 {
			t.Errorf("4.3: Append: %d works, %d pend", got, len(d.Pending()))
		}
		want = append(want, units...)
		tells(t, "4.2: Open", opens(t, "4.3: Append", d, want...), h, 19, false)
	}
}

func TestReset(t *testing.T) {
	d, l := made(t, 13)
	h := wal.Head{}
	for i, n := range []int{5, 0, 56, 57, 312, 311, 0} {
		unit := mixed(n, i)
		size := len(laid(unit)) / api.Sector
		works := d.Works()
		fine(t, "4.3: Reset", l.Reset(unit))
		h = wal.Head{Epoch: h.Epoch + 1, Area: 1 - h.Area, Used: size}
		tells(t, "4.3: Reset", l, h, 5, false)
		has(t, "4.3: Reset's sectors", d, 2+5*h.Area, laid(unit))
		has(t, "4.3: Reset's head", d, i%2, head(h.Epoch, uint32(h.Area), uint32(size)))
		if got := d.Works() - works; got != size+3 || len(d.Pending()) != 0 {
			t.Errorf("4.3: Reset: %d works, %d pend", got, len(d.Pending()))
		}
		tells(t, "4.2: Open", opens(t, "4.3: Reset", d, unit), h, 5, false)
	}
	fine(t, "4.3: Reset", l.Reset(nil))
	opens(t, "4.3: Reset to nil", d, nil)
}

// TestResetLeavesTheOtherArea: what was there stays, until the next Reset.
func TestResetLeavesTheOtherArea(t *testing.T) {
	d, l := made(t, 8)
	fine(t, "4.3: Append", l.Append(texts("a", "b", "c")))
	fine(t, "4.3: Reset", l.Reset([]byte("d")))
	has(t, "4.3: the area that was left", d, 2, laid([]byte("a")), laid([]byte("b")), laid([]byte("c")))
	fine(t, "4.3: Append", l.Append(texts("e")))
	has(t, "4.3: Append to area 1", d, 5, laid([]byte("d")), laid([]byte("e")))
	fine(t, "4.3: Reset", l.Reset([]byte("f")))
	has(t, "4.3: back again", d, 2, laid([]byte("f")), laid([]byte("b")), laid([]byte("c")), laid([]byte("d")), laid([]byte("e")))
	opens(t, "4.3: back again", d, []byte("f"))
}

// full fails unless the call is ErrFull and turns nothing.
func full(t *testing.T, what string, sectors int, ahead [][]byte, call func(l *wal.Log) api.Errno) {
	t.Helper()
	d, l := made(t, sectors)
	fine(t, what, l.Append(ahead))
	was, h, half := look(d), l.Head(), l.Half()
	for range 2 {
		if e := call(l); e != api.ErrFull {
			t.Errorf("%s: %d, want ErrFull", what, e)
		}
	}
	untouched(t, what, d, was)
	tells(t, what, l, h, half, false)
	l = opens(t, what, d, ahead...)
	d.Fuse(0)
	if e := call(l); e != api.ErrFull || d.Down() {
		t.Errorf("%s: of a disk that is about to fall: %d, want ErrFull", what, e)
	}
}

// TestFull: one sector more than there is room for.
func TestFull(t *testing.T) {
	one := texts("one")
	appends := func(units ...[]byte) func(*wal.Log) api.Errno {
		return func(l *wal.Log) api.Errno { return l.Append(units) }
	}
	resets := func(n int) func(*wal.Log) api.Errno {
		return func(l *wal.Log) api.Errno { return l.Reset(mixed(n, 1)) }
	}
	full(t, "4.3: Append of one to none", 8, nil, appends(mixed(185, 1)))
	full(t, "4.3: Append of one to none, and an odd sector", 9, nil, appends(mixed(185, 1)))
	full(t, "4.3: Append of one to one", 8, one, appends(mixed(121, 1)))
	full(t, "4.3: Append of several to none", 8, nil, appends(nil, nil, nil, nil))
	full(t, "4.3: Append of several to one", 8, one, appends(nil, mixed(57, 1)))
	full(t, "4.3: Append of a large one behind a small one", 8, one, appends(nil, mixed(185, 1)))
	full(t, "4.3: Append of a small one behind a large one", 8, one, appends(mixed(185, 1), nil))
	full(t, "4.3: Append to a full area", 8, texts("a", "b", "c"), appends(nil))
	full(t, "4.3: Append of far too much", 8, one, appends(mixed(1<<20, 1)))
	full(t, "4.3: Reset of none", 8, nil, resets(185))
	full(t, "4.3: Reset of none, and an odd sector", 9, nil, resets(185))
	full(t, "4.3: Reset of one", 8, one, resets(185))
	full(t, "4.3: Reset of far more", 8, one, resets(1<<20))
	full(t, "4.3: Append on the largest disk", 4096, nil, appends(mixed(2047*64-7, 1)))
	full(t, "4.3: Reset on the largest disk", 4096, nil, resets(2047*64-7))
}

// TestWhatJustFits: all of Room, all of Half.
func TestWhatJustFits(t *testing.T) {
	one := []byte("one")
	for _, units := range [][][]byte{{mixed(120, 1)}, {nil, nil}, {mixed(56, 1), mixed(56, 2)}} {
		d, l := made(t, 8)
		fine(t, "4.3: Append", l.Append([][]byte{one}))
		fine(t, "4.3: Append of what just fits", l.Append(units))
		tells(t, "4.3: Append of what just fits", l, wal.Head{Epoch: 2, Used: 3}, 3, false)
		opens(t, "4.3: Append of what just fits", d, append([][]byte{one}, units...)...)
		fine(t, "4.3: Reset of a full area", l.Reset(mixed(184, 3)))
		tells(t, "4.3: Reset to what just fits", l, wal.Head{Epoch: 3, Area: 1, Used: 3}, 3, false)
		opens(t, "4.3: Reset to what just fits", d, mixed(184, 3))
		fine(t, "4.3: Reset back", l.Reset(mixed(184, 4)))
		opens(t, "4.3: Reset back", d, mixed(184, 4))
	}
	d, l := made(t, 4096)
	fine(t, "4.3: Append on the largest disk", l.Append([][]byte{mixed(2047*64-8, 1)}))
	fine(t, "4.3: Reset on the largest disk", l.Reset(mixed(2047*64-8, 2)))
	opens(t, "4.3: the largest disk", d, mixed(2047*64-8, 2))
}

// TestFullAndThenNot: an ErrFull is no end: what fits goes in behind it.
func TestFullAndThenNot(t *testing.T) {
	d, l := made(t, 8)
	fine(t, "4.3: Append", l.Append(texts("a")))
	l.Append(texts("b", "c", "d"))
	fine(t, "4.3: behind an ErrFull", l.Append(texts("e", "f")))
	l.Append(texts("g"))
	l.Reset(mixed(185, 1))
	opens(t, "4.3: behind an ErrFull", d, texts("a", "e", "f")...)
	fine(t, "4.3: behind an ErrFull", l.Reset([]byte("h")))
	opens(t, "4.3: behind an ErrFull", d, []byte("h"))
}

// TestWhereHeadsGo: to 0 first, then to the one that does not have the one
// that counts, whatever is called; Epoch is one more each time.
func TestWhereHeadsGo(t *testing.T) {
	d, l := made(t, 12)
	for i := range 30 {
		was, other := look(d), i%2
		if i%3 == 2 {
			fine(t, "4.3: Reset", l.Reset(mixed(i, i)))
		} else {
			fine(t, "4.3: Append", l.Append([][]byte{mixed(i, i)}))
		}
		h := l.Head()
		if h.Epoch != uint64(i+1) {
			t.Fatalf("4.3: call %d: Epoch %d", i, h.Epoch)
		}
		has(t, "4.3: the head's sector", d, other, head(h.Epoch, uint32(h.Area), uint32(h.Used)))
		has(t, "4.3: the other one", d, 1-other, []byte(was.sectors[1-other]))
		l.Append(nil)
		l.Append([][]byte{mixed(999, 1)})
		l.Reset(mixed(999, 1))
		if l.Head() != h {
			t.Fatalf("4.3: a call that turns nothing: %+v, ahead of it %+v", l.Head(), h)
		}
	}
}

// TestEpochs: from great ones on; behind the greatest comes 0, as a U64 does.
func TestEpochs(t *testing.T) {
	for _, epoch := range []uint64{255, 1<<32 - 1, 1<<63 - 1, math.MaxUint64 - 1, math.MaxUint64} {
		d := newDisk(t, 8)
		puts(t, d, 1, head(epoch, 0, 0))
		l := opens(t, "4.2: a great Epoch", d)
		fine(t, "4.3: Append", l.Append(texts("one")))
		tells(t, "4.3: a great Epoch", l, wal.Head{Epoch: epoch + 1, Used: 1}, 3, false)
		has(t, "4.3: a great Epoch", d, 0, head(epoch+1, 0, 1))
	}
}

// TestNeitherChangesNorKeepsUnits: what is handed in may be turned behind the
// call, and is as it was, its spare room too.
func TestNeitherChangesNorKeepsUnits(t *testing.T) {
	room := mixed(300, 1)
	before := bytes.Clone(room)
	list := [][]byte{room[:5], room[5:100], nil, room[100:110], room[200:]}
	d, l := made(t, 30)
	fine(t, "4.3: Append", l.Append(list[:4]))
	if !bytes.Equal(room, before) || len(list) != 5 || &list[0][0] != &room[0] || list[2] != nil || &list[4][0] != &room[200] {
		t.Error("R2: Append changes its argument")
	}
	copied := [][]byte{bytes.Clone(room[:5]), bytes.Clone(room[5:100]), nil, bytes.Clone(room[100:110])}
	clear(room)
	clear(list)
	opens(t, "R2: Append keeps its argument", d, copied...)

	room = mixed(300, 2)
	before = bytes.Clone(room)
	fine(t, "4.3: Reset", l.Reset(room[:100]))
	if !bytes.Equal(room, before) {
		t.Error("R2: Reset changes its argument")
	}
	clear(room)
	fine(t, "4.3: Append", l.Append(texts("more")))
	opens(t, "R2: Reset keeps its argument", d, before[:100], []byte("more"))
}

// TestLogsKnowNothingOfOneAnother: nor do they of a copy of their disk.
func TestLogsKnowNothingOfOneAnother(t *testing.T) {
	d1, l1 := made(t, 8)
	d2, l2 := made(t, 12)
	fine(t, "4.3: Append", l1.Append(texts("a")))
	fine(t, "4.3: Append", l2.Append(texts("b", "c")))
	d3 := d1.Copy()
	l3 := opens(t, "R7: a copy", d3, []byte("a"))
	d1.Fuse(0)
	if e := l1.Reset([]byte("d")); e != api.ErrDown {
		t.Errorf("4.3: Reset: %d", e)
	}
	fine(t, "4.3: Reset", l2.Reset([]byte("e")))
	fine(t, "4.3: Append", l3.Append(texts("f")))
	tells(t, "R7: the first", l1, wal.Head{Epoch: 1, Used: 1}, 3, true)
	tells(t, "R7: the second", l2, wal.Head{Epoch: 2, Area: 1, Used: 1}, 5, false)
	tells(t, "R7: the third", l3, wal.Head{Epoch: 2, Used: 2}, 3, false)
	d1.Crash(nil)
	opens(t, "R7: the first", d1, []byte("a"))
	opens(t, "R7: the second", d2, []byte("e"))
	opens(t, "R7: the third", d3, texts("a", "f")...)
}
