package wal_test

import (
	"bytes"
	"math"
	"testing"

	"locksmith/api"
	"locksmith/disk"
	"locksmith/wal"
)

func TestOpenOfNil(t *testing.T) { refuses(t, "4.2: nil", nil, api.ErrArg) }

func TestOpenOfANewDisk(t *testing.T) {
	d := newDisk(t, 8)
	was := look(d)
	l := opens(t, "4.2: a new disk", d)
	tells(t, "4.2: a new disk", l, wal.Head{}, 3, false)
	untouched(t, "4.2: Open", d, was)
}

// TestOpenOfADiskThatIsDown: whatever stands on it.
func TestOpenOfADiskThatIsDown(t *testing.T) {
	fresh := newDisk(t, 8)
	right, l := made(t, 8)
	fine(t, "4.3: Append", l.Append(texts("one")))
	wrong := right.Copy()
	spoils(t, wrong, 2)
	refuses(t, "4.2: a sector that can't be read", wrong, api.ErrForm)
	for _, d := range []*disk.Disk{fresh, right, wrong} {
		d.Fuse(0)
		d.Flush()
		was := look(d)
		refuses(t, "4.2: a disk that is down", d, api.ErrDown)
		untouched(t, "4.2: Open", d, was)
	}
	right.Crash(nil)
	opens(t, "4.2: it is up again", right, []byte("one"))
}

// TestOpenIsNoWork: a disk that is about to fall is up still.
func TestOpenIsNoWork(t *testing.T) {
	d, l := made(t, 8)
	fine(t, "4.3: Append", l.Append(texts("one")))
	d.Fuse(0)
	l = opens(t, "4.2: a disk that is about to fall", d, []byte("one"))
	if d.Down() {
		t.Error("4.2: Open lets the disk fall")
	}
	if e := l.Append(texts("two")); e != api.ErrDown || !l.Dead() {
		t.Errorf("4.3: Append: %d, dead %t", e, l.Dead())
	}
}

// TestWhichHeadCounts: of two sectors, with a unit of its own for each head.
func TestWhichHeadCounts(t *testing.T) {
	wrong := head(9, 0, 1)
	wrong[63] = 1
	for _, c := range []struct {
		what          string
		first, second []byte
		want          string
		next          int
	}{
		{"none", nil, nil, "", 0},
		{"sector 0's alone", head(5, 0, 1), nil, "zero", 1},
		{"sector 1's alone", nil, head(5, 1, 1), "one", 0},
		{"sector 0's alone, of Epoch 0", head(0, 0, 1), nil, "zero", 1},
		{"sector 1's alone, of Epoch 0", nil, head(0, 1, 1), "one", 0},
		{"sector 0's is greater", head(6, 0, 1), head(5, 1, 1), "zero", 1},
		{"sector 1's is greater", head(5, 0, 1), head(6, 1, 1), "one", 0},
		{"the same", head(5, 0, 1), head(5, 1, 1), "zero", 1},
		{"the same, 0", head(0, 0, 1), head(0, 1, 1), "zero", 1},
		{"the same, the greatest", head(math.MaxUint64, 1, 1), head(math.MaxUint64, 0, 1), "one", 1},
		{"far greater", head(1<<63, 1, 1), head(1<<63-1, 0, 1), "one", 1},
		{"greater by the high bytes", head(255, 0, 1), head(256, 1, 1), "one", 0},
		{"of both, only sector 1's is right", wrong, head(5, 1, 1), "one", 0},
		{"of both, only sector 0's is right", head(5, 1, 1), wrong, "one", 1},
		{"neither is right", wrong, wrong, "", 0},
	} {
		d := newDisk(t, 8)
		puts(t, d, 0, c.first)
		puts(t, d, 1, c.second)
		puts(t, d, 2, laid([]byte("zero")))
		puts(t, d, 5, laid([]byte("one")))
		var want [][]byte
		if c.want != "" {
			want = texts(c.want)
		}
		l := opens(t, "4.2: heads: "+c.what, d, want...)
		if l.Head().Epoch == math.MaxUint64 {
			continue
		}
		h := l.Head()
		fine(t, "4.3: heads: "+c.what, l.Append(texts("more")))
		has(t, "4.3: heads: "+c.what, d, c.next, head(h.Epoch+1, uint32(h.Area), uint32(h.Used+1)))
		opens(t, "4.3: heads: "+c.what, d, append(want, []byte("more"))...)
	}
}

// TestWhichHeadCountsIfOneIsBad: a head that can't be read is none.
func TestWhichHeadCountsIfOneIsBad(t *testing.T) {
	for bad := range 2 {
		d := newDisk(t, 8)
		puts(t, d, 0, head(5+uint64(1-bad), 0, 1))
		puts(t, d, 1, head(5+uint64(bad), 1, 1))
		puts(t, d, 2, laid([]byte("zero")))
		puts(t, d, 5, laid([]byte("one")))
		spoils(t, d, bad)
		want := texts("one", "zero")[bad]
		l := opens(t, "4.2: the other can't be read", d, want)
		fine(t, "4.3: Append", l.Append(texts("more")))
		has(t, "4.3: into the bad sector", d, bad, head(6, uint32(1-bad), 2))
		opens(t, "4.3: Append", d, want, []byte("more"))
	}
}

// TestUnitsInOrder: of all sizes, in either area.
func TestUnitsInOrder(t *testing.T) {
	var units [][]byte
	var sectors [][]byte
	used := 0
	for i, n := range []int{0, 1, 56, 57, 0, 120, 121, 300, 0, 5, 56} {
		units = append(units, mixed(n, i))
		sectors = append(sectors, laid(units[i]))
		used += len(sectors[i]) / api.Sector
	}
	units = append(units, make([]byte, 100))
	sectors = append(sectors, laid(units[11]))
	used += 2
	for area := range 2 {
		d := newDisk(t, 60)
		puts(t, d, 0, head(1, uint32(area), uint32(used)))
		puts(t, d, 2+29*area, sectors...)
		was := look(d)
		opens(t, "4.2: the units", d, units...)
		untouched(t, "4.2: Open", d, was)
	}
}

// TestSectorsThatDoNotCount: what is behind Used, and in the other area, may
// be anything.
func TestSectorsThatDoNotCount(t *testing.T) {
	for area := range 2 {
		d := newDisk(t, 9)
		for at := range 9 {
			puts(t, d, at, bytes.Repeat([]byte{255}, api.Sector))
		}
		puts(t, d, 0, head(1, uint32(area), 1))
		puts(t, d, 2+3*area, laid([]byte("one")))
		opens(t, "4.2: what does not count is wrong", d, []byte("one"))
		for at := range 9 {
			if at != 0 && at != 2+3*area {
				spoils(t, d, at)
			}
		}
		opens(t, "4.2: what does not count can't be read", d, []byte("one"))
	}
}

// wrongUnits answers three units of one, two and one sectors, laid one behind
// the other, and what spoil makes of them.
func wrongUnits(spoil func(b []byte)) []byte {
	b := bytes.Join([][]byte{laid([]byte("one")), laid(mixed(70, 1)), laid([]byte("three"))}, nil)
	spoil(b)
	return b
}

// refusesUnits fails unless Open refuses what stands in its area so.
func refusesUnits(t *testing.T, what string, sectors []byte) {
	t.Helper()
	for area := range 2 {
		d := newDisk(t, 12)
		puts(t, d, 1, head(3, uint32(area), uint32(len(sectors)/api.Sector)))
		puts(t, d, 2+5*area, sectors)
		was := look(d)
		refuses(t, what, d, api.ErrForm)
		untouched(t, what, d, was)
	}
}

// TestUnitsThatAreWrong: every byte of three units counts.
func TestUnitsThatAreWrong(t *testing.T) {
	whole := wrongUnits(func([]byte) {})
	for i := range whole {
		for _, bits := range []byte{1, 16, 128} {
			refusesUnits(t, "4.2: a byte that is turned", wrongUnits(func(b []byte) { b[i] ^= bits }))
		}
	}
	d := newDisk(t, 12)
	puts(t, d, 0, head(3, 0, 4))
	puts(t, d, 2, whole)
	opens(t, "4.2: units that are right", d, []byte("one"), mixed(70, 1), []byte("three"))
}

// TestSectorThatCantBeRead: the first, one between, the last.
func TestSectorThatCantBeRead(t *testing.T) {
	for area := range 2 {
		for i := range 4 {
			d := newDisk(t, 12)
			puts(t, d, 0, head(3, uint32(area), 4))
			puts(t, d, 2+5*area, wrongUnits(func([]byte) {}))
			spoils(t, d, 2+5*area+i)
			refuses(t, "4.2: a sector that can't be read", d, api.ErrForm)
		}
	}
}

// TestLengths: a unit may go up to the end of what is used, and no further,
// though sectors stand behind.
func TestLengths(t *testing.T) {
	for used := 1; used <= 5; used++ {
		left := used*api.Sector - 8
		d := newDisk(t, 12)
		puts(t, d, 0, head(3, 0, uint32(used)))
		puts(t, d, 2, laid(mixed(left, 1)))
		opens(t, "4.2: a length that is just what is left", d, mixed(left, 1))
		if used == 5 {
			continue
		}
		puts(t, d, 2, laid(mixed(left+1, 1)))
		refuses(t, "4.2: a length that is one more than is left", d, api.ErrForm)
		puts(t, d, 0, head(3, 0, uint32(used+1)))
		opens(t, "4.2: with one more sector", d, mixed(left+1, 1))
	}
	for _, length := range [][]byte{{255, 255, 255, 255}, {128, 0, 0, 0}, {127, 255, 255, 255}, {1, 0, 0, 0}, {0, 1, 0, 0}} {
		refusesUnits(t, "4.2: a length that is far too much", append(length, make([]byte, 60)...))
		whole := wrongUnits(func(b []byte) { copy(b[3*api.Sector:], length) })
		refusesUnits(t, "4.2: the last one's length is far too much", whole)
	}
}

// TestSums: of units, with a length that fits.
func TestSums(t *testing.T) {
	for _, unit := range [][]byte{nil, {0}, []byte("one"), mixed(56, 1), mixed(57, 1), make([]byte, 56)} {
		for i := 4; i < 8; i++ {
			b := laid(unit)
			b[i]++
			refusesUnits(t, "4.2: another Sum", b)
		}
	}
}

// TestBehindAUnit: each byte up to the end of its last sector.
func TestBehindAUnit(t *testing.T) {
	for _, n := range []int{0, 1, 3, 55, 57, 119} {
		b := laid(mixed(n, 1))
		for i := 8 + n; i < len(b); i++ {
			b[i] = 1
			refusesUnits(t, "4.2: something that is not 0 behind a unit", b)
			b[i] = 0
		}
	}
}

// TestWrongUnitsDoNotMakeAnotherHeadCount: the one of the greatest Epoch does.
func TestWrongUnitsDoNotMakeAnotherHeadCount(t *testing.T) {
	d, l := made(t, 8)
	fine(t, "4.3: Append", l.Append(texts("one")))
	fine(t, "4.3: Reset", l.Reset([]byte("two")))
	spoils(t, d, 5)
	refuses(t, "4.2: its unit can't be read", d, api.ErrForm)
	spoils(t, d, 1)
	opens(t, "4.2: the other head alone", d, []byte("one"))
}

// TestOpenReadsWhatPends: as the disk tells it.
func TestOpenReadsWhatPends(t *testing.T) {
	d := newDisk(t, 8)
	fine(t, "disk.Write", d.Write(2, laid([]byte("one"))))
	fine(t, "disk.Write", d.Write(0, head(1, 0, 1)))
	opens(t, "4.2: what pends", d, []byte("one"))
	if len(d.Pending()) != 2 {
		t.Errorf("4.2: Open: %d pend", len(d.Pending()))
	}
	d.Crash(nil)
	opens(t, "4.2: it is lost", d)
}

// TestOpenAnswersNewMemory: no two units, and no two answers, share any.
func TestOpenAnswersNewMemory(t *testing.T) {
	want := texts("one", "", "three", "four")
	d, l := made(t, 20)
	fine(t, "4.3: Append", l.Append(want))
	_, first, _ := wal.Open(d)
	_, second, _ := wal.Open(d)
	for i, unit := range first {
		unit = unit[:cap(unit)]
		for k := range unit {
			unit[k] = 0xee
		}
		for _, later := range first[i+1:] {
			if bytes.Contains(later, []byte{0xee}) {
				t.Errorf("R2: unit %d shares memory with one behind it", i)
			}
		}
	}
	if !same(second, want) {
		t.Errorf("R2: two answers share memory: %q", second)
	}
	fine(t, "4.3: Append", l.Append(texts("five")))
	opens(t, "R2: an answer is changed", d, append(want, []byte("five"))...)
}

// TestOpenAgain: the logs of one disk, opened one behind the other, go on
// where the one ahead stopped.
func TestOpenAgain(t *testing.T) {
	d := newDisk(t, 20)
	var want [][]byte
	for i := range 9 {
		l := opens(t, "4.2: open again", d, want...)
		tells(t, "4.2: open again", l, wal.Head{Epoch: uint64(i), Used: i}, 9, false)
		fine(t, "4.3: Append", l.Append([][]byte{mixed(i, i)}))
		has(t, "4.3: open again", d, i%2, head(uint64(i+1), 0, uint32(i+1)))
		want = append(want, mixed(i, i))
	}
	opens(t, "4.2: open again", d, want...)
}
