package disk_test

import (
	"bytes"
	"math"
	"testing"

	"locksmith/api"
	"locksmith/disk"
)

// The calls stand with the signatures that the chapter lists.
var (
	_ func(int) (*disk.Disk, api.Errno)         = disk.New
	_ func(*disk.Disk) int                      = (*disk.Disk).Sectors
	_ func(*disk.Disk, int) ([]byte, api.Errno) = (*disk.Disk).Read
	_ func(*disk.Disk, int, []byte) api.Errno   = (*disk.Disk).Write
	_ func(*disk.Disk) api.Errno                = (*disk.Disk).Flush
	_ func(*disk.Disk) []disk.Write             = (*disk.Disk).Pending
	_ func(*disk.Disk, int)                     = (*disk.Disk).Fuse
	_ func(*disk.Disk) bool                     = (*disk.Disk).Down
	_ func(*disk.Disk, []int)                   = (*disk.Disk).Crash
	_ func(*disk.Disk) int                      = (*disk.Disk).Works
	_ func(*disk.Disk) *disk.Disk               = (*disk.Disk).Copy

	_ = disk.Write{At: int(0), Data: []byte(nil)}
)

// made answers a new disk of MinSectors.
func made(t *testing.T) *disk.Disk {
	t.Helper()
	d, e := disk.New(api.MinSectors)
	if e != api.OK || d == nil {
		t.Fatalf("3.1: New(%d): %v, %d", api.MinSectors, d, e)
	}
	return d
}

// filled answers a sector's data that differs from byte to byte, and from n to n.
func filled(n int) []byte {
	b := make([]byte, api.Sector)
	for i := range b {
		b[i] = byte(n*7 + i + 1)
	}
	b[0] = byte(n >> 8)
	return b
}

// wrote writes filled(n) to a sector, which must be OK.
func wrote(t *testing.T, d *disk.Disk, at, n int) {
	t.Helper()
	if e := d.Write(at, filled(n)); e != api.OK {
		t.Fatalf("3.1: Write(%d): %d", at, e)
	}
}

// flushed flushes, which must be OK.
func flushed(t *testing.T, d *disk.Disk) {
	t.Helper()
	if e := d.Flush(); e != api.OK {
		t.Fatalf("3.1: Flush: %d", e)
	}
}

// has fails unless the sector is read as want.
func has(t *testing.T, what string, d *disk.Disk, at int, want []byte) {
	t.Helper()
	if got, e := d.Read(at); e != api.OK || !bytes.Equal(got, want) {
		t.Errorf("%s: Read(%d): %x, %d, want %x", what, at, got, e, want)
	}
}

// refuses fails unless the sector's Read is just this error.
func refuses(t *testing.T, what string, d *disk.Disk, at int, want api.Errno) {
	t.Helper()
	if got, e := d.Read(at); e != want || got != nil {
		t.Errorf("%s: Read(%d): %x, %d, want none, %d", what, at, got, e, want)
	}
}

// pend fails unless just these pend: a sector and a number of filled each.
func pend(t *testing.T, what string, d *disk.Disk, want ...[2]int) {
	t.Helper()
	got := d.Pending()
	if len(got) != len(want) {
		t.Errorf("%s: %d pend, want %d", what, len(got), len(want))
		return
	}
	for i, w := range want {
		if got[i].At != w[0] || !bytes.Equal(got[i].Data, filled(w[1])) {
			t.Errorf("%s: the %d-th that pends: %d, %x", what, i, got[i].At, got[i].Data)
		}
	}
}

func zeros() []byte { return make([]byte, api.Sector) }

func TestNew(t *testing.T) {
	for _, c := range []struct {
		sectors int
		want    api.Errno
	}{
		{api.MinSectors, api.OK}, {api.MinSectors + 1, api.OK}, {100, api.OK},
		{api.MaxSectors - 1, api.OK}, {api.MaxSectors, api.OK},
		{api.MinSectors - 1, api.ErrArg}, {api.MaxSectors + 1, api.ErrArg},
		{0, api.ErrArg}, {1, api.ErrArg}, {-1, api.ErrArg}, {-api.MinSectors, api.ErrArg},
		{math.MaxInt, api.ErrArg}, {math.MinInt, api.ErrArg},
	} {
		d, e := disk.New(c.sectors)
		if e != c.want {
			t.Errorf("3.1: New(%d): %d, want %d", c.sectors, e, c.want)
		}
		if e != api.OK {
			if d != nil {
				t.Errorf("R3: New(%d) answers a disk beside an error", c.sectors)
			}
			continue
		}
		if got := d.Sectors(); got != c.sectors {
			t.Errorf("3.1: Sectors %d, want %d", got, c.sectors)
		}
	}
}

func TestNewDiskIsEmpty(t *testing.T) {
	for _, sectors := range []int{api.MinSectors, api.MaxSectors} {
		d, e := disk.New(sectors)
		if e != api.OK {
			t.Fatalf("3.1: New(%d): %d", sectors, e)
		}
		for at := range sectors {
			has(t, "3.1: a new disk", d, at, zeros())
		}
		pend(t, "3.1: a new disk", d)
		if d.Works() != 0 || d.Down() {
			t.Errorf("3.2: a new disk: %d works, down %t", d.Works(), d.Down())
		}
	}
}

func TestReadOfNoSuchSector(t *testing.T) {
	d := made(t)
	for _, at := range []int{-1, -8, api.MinSectors, api.MinSectors + 1, api.MaxSectors, math.MaxInt, math.MinInt} {
		refuses(t, "3.1", d, at, api.ErrArg)
	}
	has(t, "3.1: the first", d, 0, zeros())
	has(t, "3.1: the last", d, api.MinSectors-1, zeros())
}

func TestWriteThatIsNone(t *testing.T) {
	for _, c := range []struct {
		what string
		at   int
		data []byte
	}{
		{"below 0", -1, filled(1)},
		{"far below 0", math.MinInt, filled(1)},
		{"at the end", api.MinSectors, filled(1)},
		{"past the end", api.MinSectors + 1, filled(1)},
		{"far past the end", math.MaxInt, filled(1)},
		{"a byte too short", 0, filled(1)[:api.Sector-1]},
		{"a byte too long", 0, append(filled(1), 1)},
		{"two sectors long", 0, append(filled(1), filled(2)...)},
		{"empty", 0, []byte{}},
		{"nil", 0, nil},
		{"no such sector, and too short", -1, filled(1)[:1]},
	} {
		d := made(t)
		wrote(t, d, 0, 5)
		if e := d.Write(c.at, c.data); e != api.ErrArg {
			t.Errorf("3.1: Write %s: %d, want %d", c.what, e, api.ErrArg)
		}
		pend(t, "R3: Write "+c.what, d, [2]int{0, 5})
		if d.Works() != 1 {
			t.Errorf("3.2: Write %s: %d works", c.what, d.Works())
		}
	}
}

func TestWriteToEachSector(t *testing.T) {
	d, _ := disk.New(api.MaxSectors)
	for at := range api.MaxSectors {
		wrote(t, d, at, at)
	}
	if got := len(d.Pending()); got != api.MaxSectors {
		t.Fatalf("3.1: %d pend", got)
	}
	has(t, "3.1: the last pends", d, api.MaxSectors-1, filled(api.MaxSectors-1))
	flushed(t, d)
	for at := range api.MaxSectors {
		has(t, "3.1: all are flushed", d, at, filled(at))
	}
}

func TestReadOfWhatPends(t *testing.T) {
	d := made(t)
	wrote(t, d, 3, 1)
	has(t, "3.1: one pends", d, 3, filled(1))
	wrote(t, d, 4, 2)
	wrote(t, d, 3, 3)
	wrote(t, d, 3, 4)
	wrote(t, d, 5, 5)
	has(t, "3.1: the last of several", d, 3, filled(4))
	has(t, "3.1: another sector", d, 4, filled(2))
	has(t, "3.1: another sector", d, 5, filled(5))
	has(t, "3.1: one of which none pends", d, 2, zeros())
	pend(t, "3.1", d, [2]int{3, 1}, [2]int{4, 2}, [2]int{3, 3}, [2]int{3, 4}, [2]int{5, 5})
}

func TestReadOfWhatWasFlushed(t *testing.T) {
	d := made(t)
	wrote(t, d, 3, 1)
	wrote(t, d, 3, 2)
	wrote(t, d, 7, 3)
	flushed(t, d)
	pend(t, "3.1: behind a Flush", d)
	has(t, "3.1: flushed in order", d, 3, filled(2))
	has(t, "3.1: flushed", d, 7, filled(3))
	wrote(t, d, 3, 4)
	has(t, "3.1: what pends is ahead of what was flushed", d, 3, filled(4))
	pend(t, "3.1: a Write behind a Flush", d, [2]int{3, 4})
	d.Crash(nil)
	has(t, "3.2: what was flushed is not lost", d, 3, filled(2))
	has(t, "3.2: what was flushed is not lost", d, 7, filled(3))
}

func TestFlushOfNothing(t *testing.T) {
	d := made(t)
	wrote(t, d, 1, 1)
	for range 3 {
		flushed(t, d)
	}
	has(t, "3.1", d, 1, filled(1))
	pend(t, "3.1", d)
	if d.Works() != 4 {
		t.Errorf("3.2: %d works, want 4", d.Works())
	}
}

func TestBadSector(t *testing.T) {
	d := made(t)
	wrote(t, d, 1, 1)
	flushed(t, d)
	wrote(t, d, 1, 2)
	d.Crash([]int{2})
	for range 2 {
		refuses(t, "3.1: a bad sector", d, 1, api.ErrBad)
	}
	has(t, "3.1: a sector beside it", d, 0, zeros())
	has(t, "3.1: a sector beside it", d, 2, zeros())
	flushed(t, d)
	refuses(t, "3.1: a Flush of nothing mends nothing", d, 1, api.ErrBad)
	wrote(t, d, 1, 3)
	has(t, "3.1: what pends for a bad sector", d, 1, filled(3))
	d.Crash([]int{1})
	refuses(t, "3.2: it was lost", d, 1, api.ErrBad)
	wrote(t, d, 1, 4)
	flushed(t, d)
	has(t, "3.1: a sector that is written is bad no more", d, 1, filled(4))
}

func TestOneWriteOfABadSectorMendsNoOther(t *testing.T) {
	d := made(t)
	wrote(t, d, 1, 1)
	wrote(t, d, 2, 2)
	d.Crash([]int{2, 2})
	wrote(t, d, 1, 3)
	flushed(t, d)
	has(t, "3.1", d, 1, filled(3))
	refuses(t, "3.1", d, 2, api.ErrBad)
}

func TestWrongArgumentsAreAheadOfDown(t *testing.T) {
	d := made(t)
	d.Fuse(0)
	if e := d.Flush(); e != api.ErrDown {
		t.Fatalf("3.2: Flush: %d", e)
	}
	for _, at := range []int{-1, api.MinSectors} {
		refuses(t, "3.1: it is down", d, at, api.ErrArg)
		if e := d.Write(at, filled(1)); e != api.ErrArg {
			t.Errorf("3.1: Write(%d) while it is down: %d", at, e)
		}
	}
	for _, data := range [][]byte{nil, filled(1)[:api.Sector-1], append(filled(1), 0)} {
		if e := d.Write(0, data); e != api.ErrArg {
			t.Errorf("3.1: Write of %d bytes while it is down: %d", len(data), e)
		}
	}
}

func TestDownIsAheadOfBad(t *testing.T) {
	d := made(t)
	wrote(t, d, 1, 1)
	d.Crash([]int{2})
	d.Fuse(0)
	refuses(t, "3.2: not down yet", d, 1, api.ErrBad)
	d.Flush()
	refuses(t, "3.1", d, 1, api.ErrDown)
}

func TestWhatIsHandedInIsNotKept(t *testing.T) {
	d := made(t)
	room := append(filled(1), filled(2)...)
	data := room[:api.Sector]
	if e := d.Write(1, data); e != api.OK {
		t.Fatalf("3.1: Write: %d", e)
	}
	clear(room)
	has(t, "R2: data was changed behind a Write", d, 1, filled(1))
	pend(t, "R2: data was changed behind a Write", d, [2]int{1, 1})
	flushed(t, d)
	has(t, "R2: data was changed behind a Write", d, 1, filled(1))
}

func TestWhatIsHandedInIsNotChanged(t *testing.T) {
	d := made(t)
	room := append(filled(1), filled(2)...)
	d.Write(1, room[:api.Sector])
	d.Write(1, room[:api.Sector-1])
	d.Write(2, room[api.Sector:])
	fates := []int{5, -1, 0, 7, 8}
	d.Crash(fates[:1])
	d.Write(1, filled(3))
	d.Flush()
	if !bytes.Equal(room, append(filled(1), filled(2)...)) {
		t.Errorf("R2: data is %x", room)
	}
	for i, want := range []int{5, -1, 0, 7, 8} {
		if fates[i] != want {
			t.Errorf("R2: the fates are %v", fates)
		}
	}
}

func TestReadAnswersNewMemory(t *testing.T) {
	d := made(t)
	wrote(t, d, 1, 1)
	wrote(t, d, 2, 2)
	spoil := func() {
		for at := range d.Sectors() {
			b, _ := d.Read(at)
			spoilt(b)
		}
	}
	spoil()
	has(t, "R2: what pends", d, 1, filled(1))
	pend(t, "R2: what pends", d, [2]int{1, 1}, [2]int{2, 2})
	flushed(t, d)
	spoil()
	has(t, "R2: what was flushed", d, 1, filled(1))
	has(t, "R2: what was flushed", d, 2, filled(2))
	has(t, "R2: what was never written", d, 3, zeros())
	one, _ := d.Read(1)
	two, _ := d.Read(1)
	spoilt(one)
	if !bytes.Equal(two, filled(1)) {
		t.Error("R2: two Reads share memory")
	}
}

func TestPendingAnswersNewMemory(t *testing.T) {
	d := made(t)
	for n := range 5 {
		wrote(t, d, n, n)
	}
	want := [][2]int{{0, 0}, {1, 1}, {2, 2}, {3, 3}, {4, 4}}
	all := d.Pending()
	for i := range all {
		spoilt(all[i].Data)
		if i+1 < len(all) && !bytes.Equal(all[i+1].Data, filled(i+1)) {
			t.Error("R2: two lists of one answer share memory")
		}
		all[i].At = 7
	}
	room := all[:cap(all)]
	for i := range room {
		room[i] = disk.Write{At: 6}
	}
	pend(t, "R2: the list was changed", d, want...)
	kept := d.Pending()
	wrote(t, d, 5, 5)
	flushed(t, d)
	for i, w := range want {
		if kept[i].At != w[0] || !bytes.Equal(kept[i].Data, filled(w[1])) {
			t.Error("R2: a later call changed the list")
		}
	}
	for n := range 6 {
		has(t, "R2: the list was changed", d, n, filled(n))
	}
}

// spoilt changes all of b, its spare room too.
func spoilt(b []byte) {
	b = b[:cap(b)]
	for i := range b {
		b[i] ^= 0xff
	}
}

func TestDisksKnowNothingOfOneAnother(t *testing.T) {
	a, b := made(t), made(t)
	wrote(t, a, 1, 1)
	flushed(t, a)
	wrote(t, a, 2, 2)
	a.Fuse(0)
	a.Flush()
	has(t, "R7", b, 1, zeros())
	has(t, "R7", b, 2, zeros())
	pend(t, "R7", b)
	flushed(t, b)
	if b.Works() != 1 || b.Down() {
		t.Errorf("R7: %d works, down %t", b.Works(), b.Down())
	}
	b.Crash(nil)
	if !a.Down() || a.Works() != 3 {
		t.Errorf("R7: %d works, down %t", a.Works(), a.Down())
	}
	pend(t, "R7", a, [2]int{2, 2})
}
