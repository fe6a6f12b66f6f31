package store_test

import (
	"bytes"
	"encoding/binary"
	"maps"
	"slices"
	"strings"
	"testing"

	"locksmith/api"
	"locksmith/disk"
	"locksmith/store"
	"locksmith/wal"
)

type (
	change = store.Change
	pairs  = map[string]string
)

// The calls stand with the signatures that the chapter lists.
var (
	_ func(*disk.Disk) (*store.Store, api.Errno)      = store.Open
	_ func(*store.Store, string) ([]byte, bool)       = (*store.Store).Get
	_ func(*store.Store) []string                     = (*store.Store).Keys
	_ func(*store.Store, [][]change) bool             = (*store.Store).Fits
	_ func(*store.Store, [][]change) (int, api.Errno) = (*store.Store).Commit
	_ func(*store.Store) bool                         = (*store.Store).Dead
	_ func(*store.Store) int                          = (*store.Store).Units
	_ func([]change) ([]byte, api.Errno)              = store.LayChanges
	_ func([]byte) ([]change, api.Errno)              = store.ReadChanges
	_                                                 = change{Key: string(""), Has: bool(false), Value: []byte(nil)}
	_ struct {
		Key   string
		Has   bool
		Value []byte
	} = struct {
		Key   string
		Has   bool
		Value []byte
	}(change{})
)

func set(key, value string) change { return change{Key: key, Has: true, Value: []byte(value)} }

func gone(key string) change { return change{Key: key} }

// unit answers the changes as a unit.
func unit(all ...change) []change { return all }

// sets answers n changes, each of another key, of values of so many bytes.
func sets(n, size int, name string) []change {
	var all []change
	for i := range n {
		key := name + string([]byte{byte('a' + i/676%26), byte('a' + i/26%26), byte('a' + i%26)})
		all = append(all, set(key, strings.Repeat("v", size)))
	}
	return all
}

// laid is how the chapter lays a unit, worked out here.
func laid(l []change) []byte {
	b := binary.BigEndian.AppendUint16(nil, uint16(len(l)))
	for _, c := range l {
		b = binary.BigEndian.AppendUint16(b, uint16(len(c.Key)))
		b = append(b, c.Key...)
		if !c.Has {
			b = append(b, 0)
			continue
		}
		b = append(b, 1)
		b = binary.BigEndian.AppendUint16(b, uint16(len(c.Value)))
		b = append(b, c.Value...)
	}
	return b
}

// right tells whether the chapter lays a unit, worked out here.
func right(l []change) bool {
	for _, c := range l {
		if c.Key == "" || len(c.Key) > 100 || len(c.Value) > 65535 || !c.Has && len(c.Value) > 0 {
			return false
		}
	}
	return len(l) <= 1000
}

// sectors tells how many a unit needs, worked out here.
func sectors(b []byte) int { return (len(b) + 8 + 63) / 64 }

func sameChange(a, b change) bool {
	return a.Key == b.Key && a.Has == b.Has && bytes.Equal(a.Value, b.Value)
}

func sameChanges(a, b []change) bool { return slices.EqualFunc(a, b, sameChange) }

// behind answers the pairs that the unit leads to.
func behind(p pairs, l []change) pairs {
	next := maps.Clone(p)
	if next == nil {
		next = pairs{}
	}
	for _, c := range l {
		delete(next, c.Key)
		if c.Has {
			next[c.Key] = string(c.Value)
		}
	}
	return next
}

// whole answers the one unit that has all pairs.
func whole(p pairs) []change {
	var l []change
	for _, key := range slices.Sorted(maps.Keys(p)) {
		l = append(l, set(key, p[key]))
	}
	return l
}

// model is what a store must be: its pairs, and the log's units, worked out
// here, on a disk that does not fall.
type model struct {
	pairs  pairs
	units  [][]byte
	epoch  uint64
	area   int
	half   int
	resets int
}

func modelOf(sectors int) *model { return &model{pairs: pairs{}, half: (sectors - 2) / 2} }

func (m *model) copy() *model {
	c := *m
	c.pairs, c.units = maps.Clone(m.pairs), slices.Clone(m.units)
	return &c
}

func (m *model) used() int {
	n := 0
	for _, u := range m.units {
		n += sectors(u)
	}
	return n
}

func (m *model) head() wal.Head { return wal.Head{Epoch: m.epoch, Area: m.area, Used: m.used()} }

// works tells how many of the disk's the unit needs, and by what it is kept.
func (m *model) works(l []change) (int, bool) {
	if len(l) == 0 {
		return 0, false
	}
	if sectors(laid(l)) <= m.half-m.used() {
		return sectors(laid(l)) + 3, false
	}
	return sectors(laid(whole(behind(m.pairs, l)))) + 3, true
}

// one is Commit of one unit.
func (m *model) one(l []change) api.Errno {
	if !right(l) {
		return api.ErrArg
	}
	if len(l) == 0 {
		return api.OK
	}
	next := behind(m.pairs, l)
	all := whole(next)
	switch {
	case sectors(laid(l)) <= m.half-m.used():
		m.units = append(m.units, laid(l))
	case right(all) && sectors(laid(all)) <= m.half:
		m.units, m.area = [][]byte{laid(all)}, 1-m.area
		m.resets++
	default:
		return api.ErrFull
	}
	m.pairs = next
	m.epoch++
	return api.OK
}

// commit is Commit.
func (m *model) commit(units [][]change) (int, api.Errno) {
	for i, l := range units {
		if e := m.one(l); e != api.OK {
			return i, e
		}
	}
	return len(units), api.OK
}

// newDisk answers a disk of so many sectors.
func newDisk(t *testing.T, sectors int) *disk.Disk {
	t.Helper()
	d, e := disk.New(sectors)
	if e != api.OK {
		t.Fatalf("disk.New(%d): %d", sectors, e)
	}
	return d
}

// made answers a new disk, its store, and what it must be.
func made(t *testing.T, sectors int) (*disk.Disk, *store.Store, *model) {
	t.Helper()
	d := newDisk(t, sectors)
	return d, opens(t, "5.2: a new disk", d, pairs{}, 0), modelOf(sectors)
}

// opened answers the disk's store.
func opened(t *testing.T, what string, d *disk.Disk) *store.Store {
	t.Helper()
	s, e := store.Open(d)
	if e != api.OK || s == nil {
		t.Fatalf("%s: Open: %d", what, e)
	}
	if s.Dead() {
		t.Fatalf("%s: a store that was opened is dead", what)
	}
	return s
}

// opens fails unless the disk's store tells just these pairs and units.
func opens(t *testing.T, what string, d *disk.Disk, want pairs, units int) *store.Store {
	t.Helper()
	s := opened(t, what, d)
	tells(t, what+": Open", s, want, units)
	return s
}

// refuses fails unless Open is just this error, with nothing beside it.
func refuses(t *testing.T, what string, d *disk.Disk, want api.Errno) {
	t.Helper()
	if s, e := store.Open(d); e != want || s != nil {
		t.Errorf("%s: Open: %v, %d, want none, %d", what, s, e, want)
	}
}

// pairsOf answers all that the store tells.
func pairsOf(t *testing.T, what string, s *store.Store) pairs {
	t.Helper()
	got := pairs{}
	for _, key := range s.Keys() {
		value, ok := s.Get(key)
		if !ok {
			t.Fatalf("%s: no Get of %q, which Keys tells", what, key)
		}
		got[key] = string(value)
	}
	return got
}

// tells fails unless the store tells just these pairs, rising, and units.
func tells(t *testing.T, what string, s *store.Store, want pairs, units int) {
	t.Helper()
	if keys := s.Keys(); !slices.Equal(keys, slices.Sorted(maps.Keys(want))) {
		t.Fatalf("%s: Keys: %q, want %q", what, keys, slices.Sorted(maps.Keys(want)))
	}
	if got := pairsOf(t, what, s); !maps.Equal(got, want) {
		t.Fatalf("%s: pairs %q, want %q", what, got, want)
	}
	if s.Units() != units {
		t.Fatalf("%s: %d units, want %d", what, s.Units(), units)
	}
}

// agrees fails unless the store and its disk are as the model is.
func agrees(t *testing.T, what string, d *disk.Disk, s *store.Store, m *model) {
	t.Helper()
	tells(t, what, s, m.pairs, len(m.units))
	l, units, e := wal.Open(d)
	if e != api.OK || !slices.EqualFunc(units, m.units, bytes.Equal) {
		t.Fatalf("%s: the log: %d, %q, want %q", what, e, units, m.units)
	}
	if l.Head() != m.head() {
		t.Fatalf("%s: the log's head: %+v, want %+v", what, l.Head(), m.head())
	}
	opens(t, what, d, m.pairs, len(m.units))
}

// commits does Commit, and fails unless it, Fits ahead of it, and what is there
// behind both, is as the model says.
func commits(t *testing.T, what string, d *disk.Disk, s *store.Store, m *model, units ...[]change) api.Errno {
	t.Helper()
	was, before := look(d), m.copy()
	count, want := m.commit(units)
	if got := s.Fits(units); got != (want == api.OK) {
		t.Fatalf("%s: Fits %t, and Commit must be %d", what, got, want)
	}
	untouched(t, what+": Fits", d, was)
	tells(t, what+": Fits", s, before.pairs, len(before.units))
	if n, e := s.Commit(units); n != count || e != want {
		t.Fatalf("%s: Commit: %d, %d, want %d, %d", what, n, e, count, want)
	}
	if s.Dead() || len(d.Pending()) != 0 {
		t.Fatalf("%s: dead %t, %d pend", what, s.Dead(), len(d.Pending()))
	}
	agrees(t, what, d, s, m)
	return want
}

// fine fails unless the call was OK.
func fine(t *testing.T, what string, e api.Errno) {
	t.Helper()
	if e != api.OK {
		t.Fatalf("%s: %d", what, e)
	}
}

// is fails unless the call was just this.
func is(t *testing.T, what string, e, want api.Errno) {
	t.Helper()
	if e != want {
		t.Fatalf("%s: %d, want %d", what, e, want)
	}
}

// all is what a disk can tell of itself, to be held against another time.
type all struct {
	sectors []string
	errors  []api.Errno
	pends   []string
	works   int
	down    bool
}

func look(d *disk.Disk) all {
	w := all{works: d.Works(), down: d.Down()}
	for at := range d.Sectors() {
		b, e := d.Read(at)
		w.sectors, w.errors = append(w.sectors, string(b)), append(w.errors, e)
	}
	for _, p := range d.Pending() {
		w.pends = append(w.pends, string(rune(p.At))+string(p.Data))
	}
	return w
}

// untouched fails unless the disk is as it was.
func untouched(t *testing.T, what string, d *disk.Disk, was all) {
	t.Helper()
	is := look(d)
	if !slices.Equal(is.sectors, was.sectors) || !slices.Equal(is.errors, was.errors) || !slices.Equal(is.pends, was.pends) {
		t.Fatalf("%s: the disk has something else", what)
	}
	if is.works != was.works || is.down != was.down {
		t.Fatalf("%s: %d works, down %t, ahead of it %d, %t", what, is.works, is.down, was.works, was.down)
	}
}

// drawer answers numbers below n that differ from seed to seed.
func drawer(seed uint32) func(n int) int {
	return func(n int) int {
		seed = seed*1664525 + 1013904223
		return int(seed>>16) % n
	}
}
