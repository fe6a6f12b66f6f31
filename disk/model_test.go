package disk_test

import (
	"bytes"
	"slices"
	"testing"

	"locksmith/api"
	"locksmith/disk"
)

// model is a disk as the chapter tells it: what it was told, one by one, from
// which each answer is worked out anew.
type model struct {
	done  map[int]int // the number of filled of a sector; below 0: bad
	pends [][2]int
	fuse  int
	down  bool
	works int
}

func (m *model) work() bool {
	m.down = m.down || m.fuse == 0
	if !m.down {
		m.fuse--
		m.works++
	}
	return !m.down
}

func (m *model) write(at, n int) api.Errno {
	if !m.work() {
		return api.ErrDown
	}
	m.pends = append(slices.Clone(m.pends), [2]int{at, n})
	return api.OK
}

func (m *model) crash(fates []int) {
	for i, p := range m.pends {
		switch {
		case i >= len(fates):
		case fates[i] == 0:
			m.done[p[0]] = p[1]
		case fates[i] == 2:
			m.done[p[0]] = -1
		}
	}
	m.pends, m.down, m.fuse = nil, false, -1
}

func (m *model) flush() api.Errno {
	if !m.work() {
		return api.ErrDown
	}
	for _, p := range m.pends {
		m.done[p[0]] = p[1]
	}
	m.pends = nil
	return api.OK
}

func (m *model) read(at int) ([]byte, api.Errno) {
	if m.down {
		return nil, api.ErrDown
	}
	n, written := m.done[at]
	for _, p := range m.pends {
		if p[0] == at {
			n, written = p[1], true
		}
	}
	switch {
	case !written:
		return zeros(), api.OK
	case n < 0:
		return nil, api.ErrBad
	}
	return filled(n), api.OK
}

// agree fails unless the disk tells what the model tells.
func agree(t *testing.T, step int, d *disk.Disk, m *model) {
	t.Helper()
	if d.Down() != m.down || d.Works() != m.works {
		t.Fatalf("3.2: step %d: down %t, %d works, want %t, %d", step, d.Down(), d.Works(), m.down, m.works)
	}
	pend(t, "3.1: a long run", d, m.pends...)
	for at := range d.Sectors() {
		want, wantE := m.read(at)
		if got, e := d.Read(at); e != wantE || !bytes.Equal(got, want) {
			t.Fatalf("3.1: step %d: Read(%d): %x, %d, want %x, %d", step, at, got, e, want, wantE)
		}
	}
}

func TestLongRuns(t *testing.T) {
	for seed := range uint32(20) {
		state := seed
		draw := func(n int) int {
			state = state*1664525 + 1013904223
			return int(state>>16) % n
		}
		d, m := made(t), &model{done: map[int]int{}, fuse: -1}
		for step := range 300 {
			switch draw(12) {
			case 0, 1:
				if got, want := d.Flush(), m.flush(); got != want {
					t.Fatalf("3.1: step %d: Flush: %d, want %d", step, got, want)
				}
			case 2:
				n := draw(8) - 1
				d.Fuse(n)
				m.fuse = n
			case 3:
				fates := make([]int, draw(10))
				for i := range fates {
					fates[i] = draw(3)
				}
				d.Crash(fates)
				m.crash(fates)
			case 4:
				d = d.Copy()
			default:
				at, n := draw(api.MinSectors), draw(256)
				if got, want := d.Write(at, filled(n)), m.write(at, n); got != want {
					t.Fatalf("3.1: step %d: Write: %d, want %d", step, got, want)
				}
			}
			agree(t, step, d, m)
		}
	}
}
