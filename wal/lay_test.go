package wal_test

import (
	"bytes"
	"encoding/hex"
	"math"
	"testing"

	"locksmith/api"
	"locksmith/disk"
	"locksmith/wal"
)

func TestSize(t *testing.T) {
	for n, want := range map[int]int{
		0: 1, 1: 1, 55: 1, 56: 1, 57: 2, 58: 2, 64: 2, 119: 2, 120: 2, 121: 3, 184: 3, 185: 4, 248: 4, 249: 5,
		65535: 1025, 131000: 2047, 131001: 2048, 1 << 20: 16385,
	} {
		if got := wal.Size(make([]byte, n)); got != want {
			t.Errorf("4.1: Size of %d bytes: %d, want %d", n, got, want)
		}
	}
	if wal.Size(nil) != 1 {
		t.Errorf("4.1: Size of nil: %d", wal.Size(nil))
	}
}

func TestLay(t *testing.T) {
	for _, n := range []int{0, 1, 2, 55, 56, 57, 63, 64, 65, 119, 120, 121, 184, 185, 255, 256, 257, 65535, 65536, 70000} {
		unit := mixed(n, 3)
		got := wal.Lay(unit)
		if !bytes.Equal(got, laid(unit)) {
			t.Errorf("4.1: Lay of %d bytes: %x", n, got)
		}
		if len(got) != wal.Size(unit)*api.Sector {
			t.Errorf("4.1: Lay of %d bytes: %d bytes, Size %d", n, len(got), wal.Size(unit))
		}
	}
	if got := wal.Lay(nil); !bytes.Equal(got, make([]byte, api.Sector)) {
		t.Errorf("4.1: Lay of nil: %x", got)
	}
}

// TestLayByteByByte: a unit's sector as it was written down by hand.
func TestLayByteByByte(t *testing.T) {
	want, _ := hex.DecodeString("00000009cbf43926313233343536373839")
	want = append(want, make([]byte, api.Sector-len(want))...)
	if got := wal.Lay([]byte("123456789")); !bytes.Equal(got, want) {
		t.Errorf("4.1: Lay: %x, want %x", got, want)
	}
}

func TestLayNeitherChangesNorShares(t *testing.T) {
	room := mixed(200, 1)
	before := bytes.Clone(room)
	for n := range len(room) + 1 {
		unit := room[:n]
		first, second := wal.Lay(unit), wal.Lay(unit)
		wal.Size(unit)
		first = first[:cap(first)]
		for i := range first {
			first[i] = 0xee
		}
		if !bytes.Equal(room, before) {
			t.Fatalf("R2: Lay of %d bytes: its argument is changed", n)
		}
		if !bytes.Equal(second, laid(unit)) {
			t.Fatalf("R2: Lay of %d bytes: two answers share memory", n)
		}
	}
}

// TestHeadByteByByte: heads' sectors as they were written down by hand.
func TestHeadByteByByte(t *testing.T) {
	d, l := made(t, 8)
	fine(t, "4.3: Append", l.Append(texts("a", "b", "c")))
	fine(t, "4.3: Reset", l.Reset([]byte("d")))
	for at, text := range []string{
		"4c4f434b534d544800000000000000010000000000000003bef1b62c",
		"4c4f434b534d5448000000000000000200000001000000015412c275",
	} {
		want, _ := hex.DecodeString(text)
		has(t, "4.1: a head", d, at, append(want, make([]byte, api.Sector-len(want))...))
	}
	want, _ := hex.DecodeString("4c4f434b534d54480102030405060708000000010000000307cee0a0")
	puts(t, d, 0, append(want, make([]byte, api.Sector-len(want))...))
	puts(t, d, 5, laid([]byte("x")), laid([]byte("y")), laid([]byte("z")))
	l = opens(t, "4.1: a head", d, texts("x", "y", "z")...)
	tells(t, "4.1: a head", l, wal.Head{Epoch: 0x0102030405060708, Area: 1, Used: 3}, 3, false)
}

// TestAreas: how many sectors an area has, and where it begins.
func TestAreas(t *testing.T) {
	for sectors, half := range map[int]int{8: 3, 9: 3, 10: 4, 11: 4, 100: 49, 4095: 2046, 4096: 2047} {
		d, l := made(t, sectors)
		tells(t, "4.1: a new disk", l, wal.Head{}, half, false)
		first, second := mixed(half*api.Sector-8, 1), mixed(half*api.Sector-8, 2)
		fine(t, "4.3: Append", l.Append([][]byte{first}))
		has(t, "4.1: area 0", d, 2, laid(first))
		fine(t, "4.3: Reset", l.Reset(second))
		has(t, "4.1: area 0 behind a Reset", d, 2, laid(first))
		has(t, "4.1: area 1", d, 2+half, laid(second))
		has(t, "4.1: what is behind the areas", d, 2+2*half, make([]byte, (sectors-2-2*half)*api.Sector))
		opens(t, "4.2: a full area", d, second)
	}
}

// ignored fails unless a disk on whose sector 0, and on whose sector 1, that
// head alone stands is as one without a head.
func ignored(t *testing.T, what string, sector []byte) {
	t.Helper()
	for place := range 2 {
		d := newDisk(t, 8)
		puts(t, d, place, sector)
		noHead(t, what, d)
	}
}

// noHead fails unless the disk is one on which no head is right.
func noHead(t *testing.T, what string, d *disk.Disk) {
	t.Helper()
	puts(t, d, 2, laid([]byte("a")), laid([]byte("b")), laid([]byte("c")))
	l := opens(t, what, d)
	tells(t, what, l, wal.Head{}, 3, false)
	fine(t, what, l.Append(texts("new")))
	has(t, what, d, 0, head(1, 0, 1))
	opens(t, what, d, []byte("new"))
}

// TestHeadThatIsNotRight: each way of 4.1, in either sector.
func TestHeadThatIsNotRight(t *testing.T) {
	ignored(t, "4.1: no head", make([]byte, api.Sector))
	for place := range 2 {
		d := newDisk(t, 8)
		spoils(t, d, place)
		noHead(t, "4.1: a head that can't be read", d)
	}
	for _, text := range []string{"LOCKSMTh", "locksmth", "\x00OCKSMTH", "LOCKSMIT", "\x00\x00\x00\x00\x00\x00\x00\x00"} {
		ignored(t, "4.1: another text ahead", marked(text, 7, 0, 1))
	}
	for _, area := range []uint32{2, 3, 255, 256, 1 << 16, 1 << 31, math.MaxUint32} {
		ignored(t, "4.1: an Area that is neither 0 nor 1", head(7, area, 1))
	}
	for _, used := range []uint32{4, 5, 6, 255, 256, 1 << 16, 1 << 31, math.MaxUint32} {
		ignored(t, "4.1: a Used above an area's sectors", head(7, 0, used))
		ignored(t, "4.1: a Used above an area's sectors", head(7, 1, used))
	}
	ignored(t, "4.1: both", head(7, 2, 4))
}

// TestHeadWithAByteTurned: each of a head's sector, its Sum left as it is.
func TestHeadWithAByteTurned(t *testing.T) {
	for i := range api.Sector {
		for _, bits := range []byte{1, 128, 255} {
			sector := head(7, 0, 1)
			sector[i] ^= bits
			what := "4.1: something behind it that is not 0"
			switch {
			case i < 8:
				what = "4.1: another text, and not its Sum"
			case i < 24:
				what = "4.1: another number, and not its Sum"
			case i < 28:
				what = "4.1: another Sum"
			}
			ignored(t, what, sector)
		}
	}
}

// TestHeadThatIsRight: at the edges of what it may be.
func TestHeadThatIsRight(t *testing.T) {
	all := texts("a", "b", "c", "d")
	for place := range 2 {
		for _, epoch := range []uint64{0, 1, 1 << 32, 1 << 63, math.MaxUint64} {
			for area := range 2 {
				for used := range 5 {
					d := newDisk(t, 10)
					puts(t, d, place, head(epoch, uint32(area), uint32(used)))
					puts(t, d, 2+4*area, laid(all[0]), laid(all[1]), laid(all[2]), laid(all[3]))
					l := opens(t, "4.1: a right head", d, all[:used]...)
					tells(t, "4.1: a right head", l, wal.Head{Epoch: epoch, Area: area, Used: used}, 4, false)
				}
			}
		}
	}
}
