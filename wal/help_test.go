package wal_test

import (
	"bytes"
	"encoding/binary"
	"hash/crc32"
	"slices"
	"testing"

	"locksmith/api"
	"locksmith/disk"
	"locksmith/wal"
)

// The calls stand with the signatures that the chapter lists.
var (
	_ func(*disk.Disk) (*wal.Log, [][]byte, api.Errno) = wal.Open
	_ func(*wal.Log, [][]byte) api.Errno               = (*wal.Log).Append
	_ func(*wal.Log, []byte) api.Errno                 = (*wal.Log).Reset
	_ func(*wal.Log) int                               = (*wal.Log).Room
	_ func(*wal.Log) int                               = (*wal.Log).Half
	_ func(*wal.Log) wal.Head                          = (*wal.Log).Head
	_ func(*wal.Log) bool                              = (*wal.Log).Dead
	_ func([]byte) int                                 = wal.Size
	_ func([]byte) []byte                              = wal.Lay

	_ = wal.Head{Epoch: uint64(0), Area: int(0), Used: int(0)}
)

// newDisk answers a disk of so many sectors.
func newDisk(t *testing.T, sectors int) *disk.Disk {
	t.Helper()
	d, e := disk.New(sectors)
	if e != api.OK {
		t.Fatalf("disk.New(%d): %d", sectors, e)
	}
	return d
}

// made answers a new disk and its log.
func made(t *testing.T, sectors int) (*disk.Disk, *wal.Log) {
	t.Helper()
	d := newDisk(t, sectors)
	return d, opens(t, "4.2: a new disk", d)
}

// mixed answers n bytes, none of them 0, that differ from seed to seed.
func mixed(n, seed int) []byte {
	b := make([]byte, n)
	state := uint32(n + seed*977)
	for i := range b {
		state = state*1664525 + 1013904223
		b[i] = byte(state>>24) | 1
	}
	return b
}

// texts answers the texts as units.
func texts(all ...string) [][]byte {
	var units [][]byte
	for _, one := range all {
		units = append(units, []byte(one))
	}
	return units
}

// same tells whether both are the same units.
func same(a, b [][]byte) bool { return slices.EqualFunc(a, b, bytes.Equal) }

// opens fails unless the disk tells just these units.
func opens(t *testing.T, what string, d *disk.Disk, want ...[]byte) *wal.Log {
	t.Helper()
	l, units, e := wal.Open(d)
	if e != api.OK || l == nil || !same(units, want) {
		t.Fatalf("%s: Open: %q, %d, want %q", what, units, e, want)
	}
	if l.Dead() {
		t.Fatalf("%s: a log that was opened is dead", what)
	}
	return l
}

// refuses fails unless Open is just this error, with nothing beside it.
func refuses(t *testing.T, what string, d *disk.Disk, want api.Errno) {
	t.Helper()
	if l, units, e := wal.Open(d); e != want || l != nil || units != nil {
		t.Errorf("%s: Open: %v, %q, %d, want none, none, %d", what, l, units, e, want)
	}
}

// fine fails unless the call was OK.
func fine(t *testing.T, what string, e api.Errno) {
	t.Helper()
	if e != api.OK {
		t.Fatalf("%s: %d", what, e)
	}
}

// laid is how the chapter lays a unit, worked out here.
func laid(unit []byte) []byte {
	b := binary.BigEndian.AppendUint32(nil, uint32(len(unit)))
	b = binary.BigEndian.AppendUint32(b, crc32.ChecksumIEEE(unit))
	b = append(b, unit...)
	for len(b)%api.Sector != 0 {
		b = append(b, 0)
	}
	return b
}

// marked is a head's sector with any text ahead, and a Sum that fits.
func marked(text string, epoch uint64, area, used uint32) []byte {
	b := binary.BigEndian.AppendUint64([]byte(text), epoch)
	b = binary.BigEndian.AppendUint32(b, area)
	b = binary.BigEndian.AppendUint32(b, used)
	b = binary.BigEndian.AppendUint32(b, crc32.ChecksumIEEE(b))
	return append(b, make([]byte, api.Sector-len(b))...)
}

// head is how the chapter lays a head, worked out here.
func head(epoch uint64, area, used uint32) []byte { return marked("LOCKSMTH", epoch, area, used) }

// puts writes whole sectors from that one on, and flushes them.
func puts(t *testing.T, d *disk.Disk, at int, all ...[]byte) {
	t.Helper()
	b := bytes.Join(all, nil)
	for i := range len(b) / api.Sector {
		if e := d.Write(at+i, b[i*api.Sector:(i+1)*api.Sector]); e != api.OK {
			t.Fatalf("disk.Write(%d): %d", at+i, e)
		}
	}
	fine(t, "disk.Flush", d.Flush())
}

// spoils makes a sector one that can't be read.
func spoils(t *testing.T, d *disk.Disk, at int) {
	t.Helper()
	fine(t, "disk.Write", d.Write(at, make([]byte, api.Sector)))
	d.Crash([]int{2})
	if _, e := d.Read(at); e != api.ErrBad {
		t.Fatalf("sector %d can be read: %d", at, e)
	}
}

// has fails unless the disk's sectors from that one on are these bytes.
func has(t *testing.T, what string, d *disk.Disk, at int, all ...[]byte) {
	t.Helper()
	b := bytes.Join(all, nil)
	for i := range len(b) / api.Sector {
		got, e := d.Read(at + i)
		if e != api.OK || !bytes.Equal(got, b[i*api.Sector:(i+1)*api.Sector]) {
			t.Errorf("%s: sector %d: %x, %d, want %x", what, at+i, got, e, b[i*api.Sector:(i+1)*api.Sector])
		}
	}
}

// whole is all that a disk can tell of itself, to be held against another time.
type whole struct {
	sectors []string
	errors  []api.Errno
	pends   []string
	works   int
	down    bool
}

func look(d *disk.Disk) whole {
	w := whole{works: d.Works(), down: d.Down()}
	for at := range d.Sectors() {
		b, e := d.Read(at)
		w.sectors, w.errors = append(w.sectors, string(b)), append(w.errors, e)
	}
	for _, p := range d.Pending() {
		w.pends = append(w.pends, string(rune(p.At))+string(p.Data))
	}
	return w
}

// untouched fails unless the disk is as it was.
func untouched(t *testing.T, what string, d *disk.Disk, was whole) {
	t.Helper()
	is := look(d)
	if !slices.Equal(is.sectors, was.sectors) || !slices.Equal(is.errors, was.errors) || !slices.Equal(is.pends, was.pends) {
		t.Errorf("%s: the disk has something else", what)
	}
	if is.works != was.works || is.down != was.down {
		t.Errorf("%s: %d works, down %t, ahead of it %d, %t", what, is.works, is.down, was.works, was.down)
	}
}

// tells fails unless the log tells just this.
func tells(t *testing.T, what string, l *wal.Log, want wal.Head, half int, dead bool) {
	t.Helper()
	if l.Head() != want || l.Half() != half || l.Room() != half-want.Used || l.Dead() != dead {
		t.Errorf("%s: Head %+v, Half %d, Room %d, Dead %t, want %+v, %d, %d, %t",
			what, l.Head(), l.Half(), l.Room(), l.Dead(), want, half, half-want.Used, dead)
	}
}
