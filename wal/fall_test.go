package wal_test

import (
	"bytes"
	"slices"
	"testing"

	"locksmith/api"
	"locksmith/disk"
	"locksmith/wal"
)

// call is one of a log's that turn it: what it is called with, and what is
// there behind it.
type call struct {
	what   string
	do     func(l *wal.Log) api.Errno
	behind func(ahead [][]byte) [][]byte
	// writes tells the sectors that are written ahead of the head.
	writes func(h wal.Head, half int) (at int, sectors []byte)
	head   func(h wal.Head) wal.Head
}

func appends(units ...[]byte) call {
	var sectors []byte
	for _, unit := range units {
		sectors = append(sectors, laid(unit)...)
	}
	return call{
		what:   "Append",
		do:     func(l *wal.Log) api.Errno { return l.Append(units) },
		behind: func(ahead [][]byte) [][]byte { return slices.Concat(ahead, units) },
		writes: func(h wal.Head, half int) (int, []byte) { return 2 + half*h.Area + h.Used, sectors },
		head: func(h wal.Head) wal.Head {
			return wal.Head{Epoch: h.Epoch + 1, Area: h.Area, Used: h.Used + len(sectors)/api.Sector}
		},
	}
}

func resets(unit []byte) call {
	sectors := laid(unit)
	return call{
		what:   "Reset",
		do:     func(l *wal.Log) api.Errno { return l.Reset(unit) },
		behind: func([][]byte) [][]byte { return [][]byte{unit} },
		writes: func(h wal.Head, half int) (int, []byte) { return 2 + half*(1-h.Area), sectors },
		head: func(h wal.Head) wal.Head {
			return wal.Head{Epoch: h.Epoch + 1, Area: 1 - h.Area, Used: len(sectors) / api.Sector}
		},
	}
}

// works tells how many of the disk's the call needs.
func (c call) works() int {
	_, sectors := c.writes(wal.Head{}, 0)
	return len(sectors)/api.Sector + 3
}

// calls are those whose falls are gone through.
func calls() []call {
	return []call{
		appends([]byte("x")), appends(nil), appends([]byte("x"), []byte("y")),
		appends(mixed(57, 1)), appends(nil, mixed(120, 2), []byte("z")),
		resets(nil), resets([]byte("x")), resets(mixed(57, 3)), resets(mixed(180, 4)),
	}
}

// start is a disk with units on it, ahead of a call that falls.
type start struct {
	what  string
	disk  *disk.Disk
	units [][]byte
	next  int // the sector that the next head goes to
}

// starts are disks in either area, with heads in either sector, in both, in
// none, and with sectors that can't be read.
func starts(t *testing.T) []start {
	t.Helper()
	empty := newDisk(t, 20)
	var all []start
	add := func(what string, from *disk.Disk, next int, do func(d *disk.Disk, l *wal.Log), units ...[]byte) *disk.Disk {
		d := from.Copy()
		l, _, e := wal.Open(d)
		fine(t, what, e)
		do(d, l)
		opens(t, what, d, units...)
		all = append(all, start{what, d, units, next})
		return d
	}
	nothing := func(*disk.Disk, *wal.Log) {}
	add("a new disk", empty, 0, nothing)
	one := add("one head", empty, 1, func(_ *disk.Disk, l *wal.Log) { l.Append(texts("a", "b")) }, texts("a", "b")...)
	two := add("two heads", one, 0, func(_ *disk.Disk, l *wal.Log) { l.Append(texts("c")) }, texts("a", "b", "c")...)
	add("three heads", two, 1, func(_ *disk.Disk, l *wal.Log) { l.Append(texts("")) }, texts("a", "b", "c", "")...)
	there := add("the other area", two, 1, func(_ *disk.Disk, l *wal.Log) { l.Reset([]byte("d")) }, []byte("d"))
	add("more in the other area", there, 0, func(_ *disk.Disk, l *wal.Log) { l.Append(texts("e")) }, texts("d", "e")...)
	add("back again", there, 0, func(_ *disk.Disk, l *wal.Log) { l.Reset([]byte("f")) }, []byte("f"))
	add("the other head can't be read", there, 1, func(d *disk.Disk, _ *wal.Log) { spoils(t, d, 1) }, []byte("d"))
	add("no head can be read", empty, 0, func(d *disk.Disk, _ *wal.Log) { spoils(t, d, 0); spoils(t, d, 1) })
	add("all behind it can't be read", one, 1, func(d *disk.Disk, _ *wal.Log) {
		for at := 4; at < 20; at++ {
			spoils(t, d, at)
		}
	}, texts("a", "b")...)
	return all
}

// everyFate goes through all lists of n fates.
func everyFate(n int, visit func(fates []int)) {
	count := 1
	for range n {
		count *= 3
	}
	for number := range count {
		fates := make([]int, n)
		for i := range fates {
			fates[i] = number % 3
			number /= 3
		}
		visit(fates)
	}
}

// TestEachWork: a call's works one by one: its sectors in order, Flush, the
// head, Flush. What pends at each fall tells.
func TestEachWork(t *testing.T) {
	for _, s := range starts(t) {
		for _, c := range calls() {
			for fuse := range c.works() {
				d := s.disk.Copy()
				l := opens(t, s.what, d, s.units...)
				first, sectors := c.writes(l.Head(), 9)
				size, h := len(sectors)/api.Sector, c.head(l.Head())
				d.Fuse(fuse)
				c.do(l)
				pends := d.Pending()
				var want []disk.Write
				switch {
				case fuse <= size:
					for i := range fuse {
						want = append(want, disk.Write{At: first + i, Data: sectors[i*api.Sector : (i+1)*api.Sector]})
					}
				case fuse == size+2:
					want = append(want, disk.Write{At: s.next, Data: head(h.Epoch, uint32(h.Area), uint32(h.Used))})
				}
				if !slices.EqualFunc(pends, want, sameWrite) {
					t.Fatalf("4.3: %s, %s, falls at work %d: what pends: %v, want %v", s.what, c.what, fuse, pends, want)
				}
				d.Crash(nil)
				if fuse > size {
					has(t, "4.3: what was flushed ahead of the head", d, first, sectors)
				}
			}
		}
	}
}

func sameWrite(a, b disk.Write) bool { return a.At == b.At && bytes.Equal(a.Data, b.Data) }

// TestFalls: the stage's theorem, of each call at each work with all fates.
func TestFalls(t *testing.T) {
	for _, s := range starts(t) {
		for _, c := range calls() {
			behind := c.behind(s.units)
			for fuse := range c.works() + 1 {
				fallen := s.disk.Copy()
				l := opens(t, s.what, fallen, s.units...)
				fallen.Fuse(fuse)
				if e := c.do(l); (e == api.OK) != (fuse == c.works()) || e != api.OK && e != api.ErrDown {
					t.Fatalf("4.3: %s, %s, falls at work %d: %d", s.what, c.what, fuse, e)
				}
				everyFate(len(fallen.Pending()), func(fates []int) {
					d := fallen.Copy()
					d.Crash(fates)
					want := s.units
					if fuse == c.works() || fuse == c.works()-1 && fates[0] == 0 {
						want = behind
					}
					goesOn(t, "4.4: "+s.what+", "+c.what, d, want)
				})
			}
		}
	}
}

// goesOn fails unless the disk tells the units, and all that a log is asked
// behind that is told too.
func goesOn(t *testing.T, what string, d *disk.Disk, units [][]byte) {
	t.Helper()
	l := opens(t, what, d, units...)
	fine(t, what, l.Append(texts("on")))
	opens(t, what, d, slices.Concat(units, texts("on"))...)
	fine(t, what, l.Reset([]byte("reset")))
	opens(t, what, d, []byte("reset"))
}

// TestFallsBehindFalls: from what each fall leaves, each call falls again.
func TestFallsBehindFalls(t *testing.T) {
	few := []call{appends([]byte("x"), []byte("y")), resets(mixed(57, 3))}
	var fall func(d *disk.Disk, units [][]byte, deep int)
	fall = func(d *disk.Disk, units [][]byte, deep int) {
		if deep == 0 {
			goesOn(t, "4.4: falls behind falls", d, units)
			return
		}
		for _, c := range few {
			for fuse := range c.works() {
				fallen := d.Copy()
				l := opens(t, "4.4: falls behind falls", fallen, units...)
				fallen.Fuse(fuse)
				if e := c.do(l); e != api.ErrDown {
					t.Fatalf("4.3: %s, falls at work %d: %d", c.what, fuse, e)
				}
				for fate := range 3 {
					next := fallen.Copy()
					next.Crash([]int{fate, fate, fate})
					behind := units
					if fuse == c.works()-1 && fate == 0 {
						behind = c.behind(units)
					}
					fall(next, behind, deep-1)
				}
			}
		}
	}
	fall(newDisk(t, 20), nil, 3)
}

// TestDead: behind a fall all of a log's calls are ErrDown, and ask nothing of
// the disk, though it is up again; what it tells stays.
func TestDead(t *testing.T) {
	for _, s := range starts(t) {
		for _, c := range calls() {
			for fuse := range c.works() {
				d := s.disk.Copy()
				l := opens(t, s.what, d, s.units...)
				h := l.Head()
				tells(t, "4.3: ahead of the fall", l, h, 9, false)
				d.Fuse(fuse)
				if e := c.do(l); e != api.ErrDown {
					t.Fatalf("4.3: %s, falls at work %d: %d", c.what, fuse, e)
				}
				staysDead(t, "4.3: behind the fall", d, l, h)
				refuses(t, "4.2: behind the fall", d, api.ErrDown)
				d.Crash(nil)
				staysDead(t, "4.3: behind the Crash", d, l, h)
				opens(t, "4.4: behind the Crash", d, s.units...)
			}
		}
	}
}

// staysDead fails unless each of the log's calls is ErrDown.
func staysDead(t *testing.T, what string, d *disk.Disk, l *wal.Log, h wal.Head) {
	t.Helper()
	was := look(d)
	tells(t, what, l, h, 9, true)
	for i, e := range []api.Errno{
		l.Append(nil), l.Append([][]byte{}), l.Append(texts("x")), l.Append([][]byte{mixed(9999, 1)}),
		l.Reset(nil), l.Reset([]byte("x")), l.Reset(mixed(9999, 1)),
	} {
		if e != api.ErrDown {
			t.Errorf("%s: a dead log's call %d: %d", what, i, e)
		}
	}
	tells(t, what, l, h, 9, true)
	untouched(t, what, d, was)
}

// TestFallBehindTheCall: what was OK is there, whatever becomes of the disk.
func TestFallBehindTheCall(t *testing.T) {
	for _, s := range starts(t) {
		for _, c := range calls() {
			d := s.disk.Copy()
			l := opens(t, s.what, d, s.units...)
			d.Fuse(c.works())
			fine(t, "4.3: "+c.what, c.do(l))
			if d.Down() || l.Dead() || len(d.Pending()) != 0 {
				t.Errorf("4.3: %s: down %t, dead %t, %d pend", c.what, d.Down(), l.Dead(), len(d.Pending()))
			}
			h := l.Head()
			if e := l.Append(texts("lost")); e != api.ErrDown {
				t.Errorf("4.3: Append to a disk that fell: %d", e)
			}
			tells(t, "4.3: behind the fall", l, h, 9, true)
			d.Crash([]int{2, 2, 2, 2})
			opens(t, "4.4: a call that was OK", d, c.behind(s.units)...)
		}
	}
}

// drawer answers numbers below n that differ from seed to seed.
func drawer(seed uint32) func(n int) int {
	return func(n int) int {
		seed = seed*1664525 + 1013904223
		return int(seed>>16) % n
	}
}

// drawn answers a call of any units.
func drawn(draw func(n int) int) call {
	if draw(3) == 0 {
		return resets(mixed(draw(200), draw(100)))
	}
	var units [][]byte
	for range 1 + draw(3) {
		units = append(units, mixed(draw(130), draw(100)))
	}
	return appends(units...)
}

// drawnFates answers more fates than can be needed.
func drawnFates(draw func(n int) int) []int {
	fates := make([]int, 20)
	for i := range fates {
		fates[i] = draw(3)
	}
	return fates
}

// TestLongRuns: draws of calls, falls and fates, held against a list of units.
func TestLongRuns(t *testing.T) {
	for seed := range uint32(40) {
		draw := drawer(seed)
		d, l := made(t, 8+draw(30))
		var units [][]byte
		for step := range 200 {
			c, h := drawn(draw), l.Head()
			if draw(3) == 0 {
				d.Fuse(draw(c.works() + 2))
			}
			e := c.do(l)
			d.Fuse(-1)
			if fits := c.head(h).Used <= l.Half(); fits == (e == api.ErrFull) {
				t.Fatalf("4.3: seed %d, step %d: %s from %+v on: %d", seed, step, c.what, h, e)
			}
			switch e {
			case api.OK:
				h, units = c.head(h), c.behind(units)
				tells(t, "4.3: a long run", l, h, l.Half(), false)
			case api.ErrFull:
				tells(t, "4.3: a long run", l, h, l.Half(), false)
			default:
				tells(t, "4.3: a long run", l, h, l.Half(), true)
				d.Crash(drawnFates(draw))
				units = oneOf(t, "4.4: a long run", d, units, c.behind(units))
			}
			if e == api.ErrDown || draw(4) == 0 {
				l = opens(t, "4.4: a long run", d, units...)
			}
		}
	}
}

// oneOf fails unless the disk tells these or those units, and answers which.
func oneOf(t *testing.T, what string, d *disk.Disk, these, those [][]byte) [][]byte {
	t.Helper()
	_, units, e := wal.Open(d)
	if e != api.OK || !same(units, these) && !same(units, those) {
		t.Fatalf("%s: Open: %q, %d, want %q or %q", what, units, e, these, those)
	}
	return units
}
