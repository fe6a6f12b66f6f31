package store_test

import (
	"strings"
	"testing"

	"locksmith/api"
	"locksmith/disk"
	"locksmith/store"
	"locksmith/wal"
)

// start is a disk with pairs on it, ahead of a Commit that falls.
type start struct {
	what string
	disk *disk.Disk
	is   *model
}

// starts are disks with much room, with little, and with none.
func starts(t *testing.T) []start {
	t.Helper()
	var all []start
	add := func(what string, sectors int, units ...[]change) {
		d, s, m := made(t, sectors)
		fine(t, what, commits(t, what, d, s, m, units...))
		all = append(all, start{what, d, m})
	}
	add("a new disk", 20)
	add("a new, small disk", 8)
	add("much room", 20, unit(set("z", "0")), unit(set("a", "0"), set("x", "1")))
	add("room for one", 8, unit(set("z", "0")), unit(gone("a")))
	add("no room", 8, unit(set("z", "0")), unit(set("a", "0")), unit(gone("x")))
	add("behind a Reset", 8, unit(set("z", "0")), unit(set("a", "0")), unit(gone("a")), unit(set("a", "1")))
	add("no room behind a Reset", 8, unit(set("z", "0")), unit(set("a", "0")), unit(gone("z")), unit(set("a", "1")), unit(gone("x")), unit(set("z", "2")))
	add("great pairs", 8, sized("g", 100), unit(set("z", "0")))
	return all
}

// commitsToFall are lists of units, each of which all starts have room for.
func commitsToFall() [][][]change {
	return [][][]change{
		{unit(set("a", "1"))},
		{unit(set("a", strings.Repeat("v", 50)))},
		{unit(set("a", "1")), unit(set("b", "2"), gone("a")), unit(set("a", "3"))},
		{nil, unit(gone("z")), {}, unit(gone("a"), gone("x"), gone("g")), nil},
		{unit(set("g", strings.Repeat("g", 90))), unit(set("a", "1"), gone("g")), unit(set("g", strings.Repeat("h", 60)))},
	}
}

// step is one of a Commit's works: which unit it is for, and whether it is the
// one that makes sure of it.
type step struct {
	unit  int
	flush bool // of the head
}

// stepsOf tells the works of a Commit, and the models ahead of each unit and
// behind the last.
func stepsOf(m *model, units [][]change) ([]step, []*model) {
	var steps []step
	models := []*model{m}
	for i, l := range units {
		works, _ := m.works(l)
		for k := range works {
			steps = append(steps, step{unit: i, flush: k == works-1})
		}
		m = m.copy()
		m.one(l)
		models = append(models, m)
	}
	return steps, models
}

// everyFate goes through all lists of n fates.
func everyFate(n int, visit func(fates []int)) {
	count := 1
	for range n {
		count *= 3
	}
	for number := range count {
		fates := make([]int, n)
		for i := range fates {
			fates[i] = number % 3
			number /= 3
		}
		visit(fates)
	}
}

// fallen answers a copy of the start's disk, fallen at that work of Commit, and
// the store that was over it.
func fallen(t *testing.T, from start, units [][]change, fuse int, told int, behind *model) (*disk.Disk, *store.Store) {
	t.Helper()
	d := from.disk.Copy()
	s := opens(t, from.what, d, from.is.pairs, len(from.is.units))
	d.Fuse(fuse)
	if !s.Fits(units) {
		t.Fatalf("5.3: %s: there is room, whether it falls or not", from.what)
	}
	n, e := s.Commit(units)
	if n != told || e != api.ErrDown || !s.Dead() {
		t.Fatalf("5.3: %s, falls at work %d: %d, %d, dead %t, want %d", from.what, fuse, n, e, s.Dead(), told)
	}
	tells(t, "5.3: behind a fall", s, behind.pairs, len(behind.units))
	return d, s
}

// TestFalls: the stage's theorem, of each Commit at each work with all fates.
func TestFalls(t *testing.T) {
	resets := 0
	for _, from := range starts(t) {
		for _, units := range commitsToFall() {
			steps, models := stepsOf(from.is, units)
			for fuse, at := range steps {
				d, s := fallen(t, from, units, fuse, at.unit, models[at.unit])
				refuses(t, "5.2: a disk that fell", d, api.ErrDown)
				everyFate(len(d.Pending()), func(fates []int) {
					anew := d.Copy()
					anew.Crash(fates)
					want := models[at.unit]
					if at.flush && fates[0] == 0 {
						want = models[at.unit+1]
					}
					goesOn(t, "5.4: "+from.what, anew, want)
				})
				staysDead(t, "5.3: behind a fall", d, s, models[at.unit])
				d.Crash(nil)
				staysDead(t, "5.3: behind the Crash", d, s, models[at.unit])
			}
			resets += models[len(models)-1].resets - from.is.resets
			fallsBehind(t, from, units, len(steps), models[len(models)-1])
		}
	}
	if resets < 10 {
		t.Errorf("only %d of the units were kept by Reset", resets)
	}
}

// goesOn fails unless the disk is as the model, and takes units from there on.
func goesOn(t *testing.T, what string, d *disk.Disk, want *model) {
	t.Helper()
	m := want.copy()
	s := opens(t, what, d, m.pairs, len(m.units))
	agrees(t, what, d, s, m)
	for _, l := range [][]change{unit(set("on", "1"), gone("g")), unit(gone("a"), set("on", "2")), unit(gone("on"))} {
		fine(t, what, commits(t, what, d, s, m, l))
	}
}

// fallsBehind fails unless what Commit told is there, whatever becomes of the
// disk behind it.
func fallsBehind(t *testing.T, from start, units [][]change, works int, want *model) {
	t.Helper()
	d := from.disk.Copy()
	s := opens(t, from.what, d, from.is.pairs, len(from.is.units))
	d.Fuse(works)
	if n, e := s.Commit(units); n != len(units) || e != api.OK || s.Dead() || d.Down() {
		t.Fatalf("5.3: %s: Commit of as many works as are done: %d, %d", from.what, n, e)
	}
	if n, e := s.Commit([][]change{unit(gone("z")), nil}); n != 0 || e != api.ErrDown || !s.Dead() {
		t.Fatalf("5.3: %s: Commit to a disk that falls at once: %d, %d", from.what, n, e)
	}
	tells(t, "5.3: behind the fall", s, want.pairs, len(want.units))
	d.Crash([]int{2, 2, 2, 2})
	goesOn(t, "5.4: what Commit told", d, want)
}

// staysDead fails unless a dead store keeps nothing, fits nothing and asks
// nothing of the disk, and tells what it told.
func staysDead(t *testing.T, what string, d *disk.Disk, s *store.Store, want *model) {
	t.Helper()
	was := look(d)
	one := unit(set("dead", "1"))
	for i, x := range []struct {
		units [][]change
		n     int
		e     api.Errno
	}{
		{nil, 0, api.OK}, {[][]change{nil, {}}, 2, api.OK},
		{[][]change{one}, 0, api.ErrDown}, {[][]change{one, nil}, 0, api.ErrDown}, {[][]change{nil, one, nil}, 1, api.ErrDown},
		{[][]change{sized("great", 5000)}, 0, api.ErrDown}, {[][]change{unit(gone("a")), unit(gone(""))}, 0, api.ErrDown},
		{[][]change{unit(gone("")), one}, 0, api.ErrArg},
	} {
		if s.Fits(x.units) {
			t.Errorf("%s: a dead store: Fits %d", what, i)
		}
		if n, e := s.Commit(x.units); n != x.n || e != x.e {
			t.Errorf("%s: a dead store: Commit %d: %d, %d, want %d, %d", what, i, n, e, x.n, x.e)
		}
		if !s.Dead() {
			t.Errorf("%s: a dead store is dead no more", what)
		}
	}
	tells(t, what, s, want.pairs, len(want.units))
	untouched(t, what, d, was)
}

// TestRefusalsDoNotKill: ErrArg and ErrFull leave the store alive, on a disk
// that falls at the next work, too.
func TestRefusalsDoNotKill(t *testing.T) {
	d, s, m := filled(t)
	d.Fuse(0)
	is(t, "5.3: a refused unit", commits(t, "5.3: a refused unit", d, s, m, unit(gone(""))), api.ErrArg)
	is(t, "5.3: no room", commits(t, "5.3: no room", d, s, m, sized("great", 500)), api.ErrFull)
	is(t, "5.3: no changes", commits(t, "5.3: no changes", d, s, m, nil, nil), api.OK)
	if n, e := s.Commit([][]change{nil, unit(set("a", "2"))}); n != 1 || e != api.ErrDown || !s.Dead() {
		t.Errorf("5.3: Commit to a disk that falls at once: %d, %d", n, e)
	}
}

// TestADiskThatIsDown: it fell under somebody else's work. The store tells
// that by the first unit that it would write.
func TestADiskThatIsDown(t *testing.T) {
	d, s, m := filled(t)
	d.Fuse(0)
	d.Flush()
	tells(t, "5.3: a disk that is down", s, m.pairs, len(m.units))
	if s.Dead() || !s.Fits([][]change{unit(set("a", "2"))}) {
		t.Errorf("5.3: a disk that is down: dead %t", s.Dead())
	}
	if n, e := s.Commit([][]change{sized("great", 500)}); n != 0 || e != api.ErrFull || s.Dead() {
		t.Errorf("5.3: a disk that is down: %d, %d", n, e)
	}
	if n, e := s.Commit([][]change{unit(set("a", "2"))}); n != 0 || e != api.ErrDown || !s.Dead() {
		t.Errorf("5.3: a disk that is down: %d, %d", n, e)
	}
	staysDead(t, "5.3: a disk that is down", d, s, m)
	d.Crash(nil)
	goesOn(t, "5.4: a disk that was down", d, m)
}

// TestFallsBehindFalls: from what each fall leaves, each Commit falls again.
func TestFallsBehindFalls(t *testing.T) {
	few := [][][]change{{unit(set("a", "1")), unit(gone("a"), set("b", "2"))}, {sized("a", 60)}}
	var fall func(from start, deep int)
	fall = func(from start, deep int) {
		if deep == 0 {
			goesOn(t, "5.4: falls behind falls", from.disk, from.is)
			return
		}
		for _, units := range few {
			steps, models := stepsOf(from.is, units)
			for fuse, at := range steps {
				d, _ := fallen(t, from, units, fuse, at.unit, models[at.unit])
				for fate := range 3 {
					next := d.Copy()
					next.Crash([]int{fate, fate, fate, fate})
					want := models[at.unit]
					if at.flush && fate == 0 {
						want = models[at.unit+1]
					}
					fall(start{"falls behind falls", next, want}, deep-1)
				}
			}
		}
	}
	for _, from := range starts(t) {
		fall(from, 2)
	}
}

// TestLongRunsOfFalls: draws of units, falls and fates.
func TestLongRunsOfFalls(t *testing.T) {
	falls, more := 0, 0
	for seed := range uint32(60) {
		draw := drawer(seed + 1000)
		d, s, m := made(t, 8+draw(30))
		for range 60 {
			units := drawnUnits(draw)
			if draw(2) == 0 {
				d.Fuse(draw(25))
			}
			n, e := s.Commit(units)
			d.Fuse(-1)
			if told, want := m.copy().commit(units); e != api.ErrDown && (n != told || e != want) || e == api.ErrDown && n >= len(units) {
				t.Fatalf("5.3: a long run: %d, %d, want %d, %d", n, e, told, want)
			}
			m.commit(units[:n])
			tells(t, "5.3: a long run", s, m.pairs, len(m.units))
			if s.Dead() != (e == api.ErrDown) {
				t.Fatalf("5.3: a long run: %d, dead %t", e, s.Dead())
			}
			if !s.Dead() {
				continue
			}
			falls++
			d.Crash([]int{draw(3), draw(3), draw(3), draw(3), draw(3), draw(3), draw(3), draw(3)})
			s = opened(t, "5.4: a long run", d)
			if log, _, e := wal.Open(d); e == api.OK && log.Head() != m.head() {
				m.one(units[n])
				more++
			}
			agrees(t, "5.4: a long run", d, s, m)
		}
	}
	if falls < 300 || more < 10 {
		t.Errorf("the long runs went few ways: %d falls, of %d one more unit was there", falls, more)
	}
}
