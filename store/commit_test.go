package store_test

import (
	"slices"
	"strings"
	"testing"

	"locksmith/api"
	"locksmith/disk"
	"locksmith/store"
)

// sized answers a unit of one change that is laid as just so many bytes.
func sized(key string, bytes int) []change {
	return unit(set(key, strings.Repeat("v", bytes-7-len(key))))
}

func TestCommitOfNone(t *testing.T) {
	d, s, m := made(t, 8)
	for range 4 {
		was := look(d)
		is(t, "5.3: Commit of nil", commits(t, "5.3: Commit of nil", d, s, m), api.OK)
		untouched(t, "5.3: Commit of nil", d, was)
		if n, e := s.Commit([][]change{}); n != 0 || e != api.OK || !s.Fits([][]change{}) {
			t.Errorf("5.3: Commit of no units: %d, %d", n, e)
		}
		untouched(t, "5.3: Commit of no units", d, was)
		agrees(t, "5.3: Commit of no units", d, s, m)
		is(t, "5.3: Commit", commits(t, "5.3: Commit", d, s, m, unit(set("a", "1"))), api.OK)
	}
}

func TestCommitOfOne(t *testing.T) {
	d, s, m := made(t, 20)
	for i, l := range [][]change{
		unit(set("b", "1")), unit(set("a", "2")), unit(set("b", "3")), unit(gone("a")), unit(gone("a")),
		unit(set("a", "4"), gone("b"), set("c", "")), unit(gone("never")), unit(set("b", strings.Repeat("v", 100))),
	} {
		works := d.Works()
		is(t, "5.3: Commit of one", commits(t, "5.3: Commit of one", d, s, m, l), api.OK)
		if got := d.Works() - works; got != sectors(laid(l))+3 || s.Units() != i+1 {
			t.Errorf("5.3: Commit of one: %d works, %d units", got, s.Units())
		}
	}
	tells(t, "5.3: Commit of one", s, pairs{"a": "4", "b": strings.Repeat("v", 100), "c": ""}, 8)
}

// TestCommitOfSeveral: each is made sure of alone, by a head of its own.
func TestCommitOfSeveral(t *testing.T) {
	d, s, m := made(t, 20)
	units := [][]change{unit(set("b", "1"), set("a", "2")), unit(gone("b"), set("c", "3")), unit(set("b", "4"))}
	is(t, "5.3: Commit of several", commits(t, "5.3: Commit of several", d, s, m, units...), api.OK)
	tells(t, "5.3: Commit of several", s, pairs{"a": "2", "b": "4", "c": "3"}, 3)
	if d.Works() != 3*4 || m.epoch != 3 {
		t.Errorf("5.3: Commit of several: %d works", d.Works())
	}
}

// TestUnitsWithoutChanges: nothing is written, and they count.
func TestUnitsWithoutChanges(t *testing.T) {
	one := unit(set("a", "1"))
	for _, full := range []bool{false, true} {
		for _, x := range []struct {
			units [][]change
			works int
		}{
			{[][]change{nil}, 0}, {[][]change{{}}, 0}, {[][]change{nil, {}, nil}, 0},
			{[][]change{nil, one}, 4}, {[][]change{one, nil}, 4}, {[][]change{one, {}, nil, one}, 8}, {[][]change{nil, one, nil}, 4},
		} {
			d, s, m := made(t, 8)
			if full {
				commits(t, "5.3: fill up", d, s, m, one, one, one)
			}
			works := d.Works()
			if n, e := s.Commit(x.units); n != len(x.units) || e != api.OK {
				t.Errorf("5.3: units without changes: %d, %d", n, e)
			}
			m.commit(x.units)
			agrees(t, "5.3: units without changes", d, s, m)
			if got := d.Works() - works; got != x.works {
				t.Errorf("5.3: units without changes: %d works, want %d", got, x.works)
			}
		}
	}
}

// TestRefusedUnits: ahead of, between and behind others, and units without
// changes.
func TestRefusedUnits(t *testing.T) {
	for what, odd := range edges() {
		if right(odd) {
			continue
		}
		for at := range 5 {
			d, s, m := made(t, 20)
			units := slices.Insert([][]change{unit(set("a", "1")), nil, unit(set("b", "2"), gone("a")), unit(set("c", "3"))}, at, odd)
			is(t, "5.3: "+what, commits(t, "5.3: "+what, d, s, m, units...), api.ErrArg)
			if len(m.units) != []int{0, 1, 1, 2, 3}[at] {
				t.Errorf("5.3: %s: %d units", what, len(m.units))
			}
			is(t, "5.3: behind "+what, commits(t, "5.3: behind "+what, d, s, m, unit(set("d", "4"))), api.OK)
		}
	}
}

// TestRefusedUnitsTurnNothing: the changes ahead of the odd one, too.
func TestRefusedUnitsTurnNothing(t *testing.T) {
	d, s, m := made(t, 20)
	commits(t, "5.3: Commit", d, s, m, unit(set("a", "1"), set("b", "2")))
	was := look(d)
	for _, odd := range [][]change{
		unit(set("a", "3"), gone("b"), set("", "")), unit(gone(""), gone("a")), unit(set("c", ""), change{Key: "d", Value: []byte("x")}),
	} {
		if n, e := s.Commit([][]change{odd, unit(set("e", "5"))}); n != 0 || e != api.ErrArg {
			t.Errorf("5.3: a refused unit: %d, %d", n, e)
		}
		untouched(t, "5.3: a refused unit", d, was)
		agrees(t, "5.3: a refused unit", d, s, m)
	}
}

// TestFirstError: of one that is refused and one that is too great, the first.
func TestFirstError(t *testing.T) {
	odd, great, fit := unit(set("", "")), sized("k", 200), unit(set("a", "1"))
	for _, x := range []struct {
		units [][]change
		want  api.Errno
	}{
		{[][]change{odd, great}, api.ErrArg}, {[][]change{great, odd}, api.ErrFull},
		{[][]change{fit, odd, great}, api.ErrArg}, {[][]change{fit, great, odd}, api.ErrFull},
		{[][]change{unit(set("k", strings.Repeat("v", 200)), set("", ""))}, api.ErrArg},
	} {
		d, s, m := made(t, 8)
		is(t, "5.3: the first error", commits(t, "5.3: the first error", d, s, m, x.units...), x.want)
	}
}

// TestAppendEdges: as great as there is room, and one byte more, where Reset
// can't keep it either.
func TestAppendEdges(t *testing.T) {
	for _, x := range []struct {
		sectors, bytes int
		want           api.Errno
	}{
		{8, 56, api.OK}, {8, 57, api.OK}, {8, 184, api.OK}, {8, 185, api.ErrFull}, {9, 184, api.OK}, {9, 185, api.ErrFull},
		{10, 248, api.OK}, {10, 249, api.ErrFull}, {20, 568, api.OK}, {20, 569, api.ErrFull}, {20, 5690, api.ErrFull},
	} {
		d, s, m := made(t, x.sectors)
		is(t, "5.3: Append's edge", commits(t, "5.3: Append's edge", d, s, m, sized("k", x.bytes)), x.want)
		if m.resets != 0 {
			t.Errorf("5.3: %d bytes on %d sectors: by Reset", x.bytes, x.sectors)
		}
	}
}

// filled answers a disk of 8 sectors whose area has no room any more, with
// one pair.
func filled(t *testing.T) (*disk.Disk, *store.Store, *model) {
	t.Helper()
	d, s, m := made(t, 8)
	commits(t, "5.3: fill up", d, s, m, unit(set("a", "1")), unit(set("b", "2")), unit(gone("b")))
	if m.used() != m.half || m.resets != 0 {
		t.Fatalf("%d of %d sectors are used", m.used(), m.half)
	}
	return d, s, m
}

// TestResetEdges: all pairs as great as an area, and one byte more.
func TestResetEdges(t *testing.T) {
	for _, x := range []struct {
		bytes int // of the one unit that has all pairs: 2 and 7 are a's
		want  api.Errno
	}{{50, api.OK}, {56, api.OK}, {57, api.OK}, {120, api.OK}, {121, api.OK}, {184, api.OK}, {185, api.ErrFull}, {400, api.ErrFull}} {
		d, s, m := filled(t)
		was := look(d)
		is(t, "5.3: Reset's edge", commits(t, "5.3: Reset's edge", d, s, m, sized("k", x.bytes-7)), x.want)
		if x.want == api.ErrFull {
			untouched(t, "5.3: Reset's edge", d, was)
			continue
		}
		if s.Units() != 1 || m.resets != 1 || d.Works()-was.works != sectors(make([]byte, x.bytes))+3 {
			t.Errorf("5.3: Reset's edge: %d units, %d works", s.Units(), d.Works()-was.works)
		}
	}
}

// TestResetTakesThePairsAlone: what was set over or is gone takes no room.
func TestResetTakesThePairsAlone(t *testing.T) {
	d, s, m := made(t, 8)
	for i := range 30 {
		is(t, "5.3: set over", commits(t, "5.3: set over", d, s, m, sized("k", 100+i)), api.OK)
		is(t, "5.3: gone", commits(t, "5.3: gone", d, s, m, unit(gone("k"), set("x", "y"))), api.OK)
	}
	if m.resets < 10 {
		t.Errorf("5.3: only %d Resets", m.resets)
	}
}

// TestResetOfNoPairs: the one unit has none, and stands in the log.
func TestResetOfNoPairs(t *testing.T) {
	d, s, m := filled(t)
	is(t, "5.3: the last pair is gone", commits(t, "5.3: the last pair is gone", d, s, m, unit(gone("a"))), api.OK)
	tells(t, "5.3: the last pair is gone", s, pairs{}, 1)
	if string(m.units[0]) != "\x00\x00" || m.resets != 1 {
		t.Errorf("5.3: the one unit: %q", m.units)
	}
	is(t, "5.3: anew", commits(t, "5.3: anew", d, s, m, unit(set("b", "2"))), api.OK)
	tells(t, "5.3: anew", s, pairs{"b": "2"}, 2)
}

// TestResetLaysByKey: whatever the unit's order was, and each with Has.
func TestResetLaysByKey(t *testing.T) {
	for range 20 {
		d, s, m := filled(t)
		l := unit(set("z", "1"), set("é", "2"), set("B", "3"), gone("z"), set("\xff", "4"), set("y", "5"), set("z", "6"), gone("none"), set("\x00", ""))
		is(t, "5.3: by key", commits(t, "5.3: by key", d, s, m, l), api.OK)
		want := laid(unit(set("\x00", ""), set("B", "3"), set("a", "1"), set("y", "5"), set("z", "6"), set("é", "2"), set("\xff", "4")))
		if len(m.units) != 1 || string(m.units[0]) != string(want) {
			t.Fatalf("5.3: the one unit: %q, want %q", m.units, want)
		}
	}
}

// TestFullBetween: units ahead of one that has no room are kept, those behind
// it are not, and the store goes on.
func TestFullBetween(t *testing.T) {
	great := sized("great", 190)
	for at := range 4 {
		d, s, m := filled(t)
		units := slices.Insert([][]change{unit(set("c", "3")), unit(set("d", "4")), unit(gone("c"))}, at, great)
		is(t, "5.3: full", commits(t, "5.3: full", d, s, m, units...), api.ErrFull)
		is(t, "5.3: behind full", commits(t, "5.3: behind full", d, s, m, unit(set("e", "5"), gone("a"))), api.OK)
		is(t, "5.3: full again", commits(t, "5.3: full again", d, s, m, great), api.ErrFull)
	}
}

// TestFitsOneBehindTheOther: each unit is held against what those ahead of it
// leave, pairs and room.
func TestFitsOneBehindTheOther(t *testing.T) {
	for _, x := range []struct {
		what  string
		units [][]change
		want  api.Errno
	}{
		{"three small ones", [][]change{unit(set("a", "1")), unit(set("b", "2")), unit(set("c", "3"))}, api.OK},
		{"ten small ones", slices.Repeat([][]change{unit(set("a", "1"))}, 10), api.OK},
		{"a great one over and over", slices.Repeat([][]change{sized("k", 184)}, 5), api.OK},
		{"another great one", [][]change{sized("k", 100), sized("l", 100)}, api.ErrFull},
		{"another great one, the first gone", [][]change{sized("k", 100), unit(gone("k")), sized("l", 100)}, api.OK},
		{"another great one, the first gone at once", [][]change{sized("k", 100), append(sized("l", 100), gone("k"))}, api.OK},
		{"pairs that add up", [][]change{sized("k", 80), sized("l", 80), sized("m", 80)}, api.ErrFull},
		{"room behind a Reset", [][]change{sized("k", 150), unit(set("l", "1")), unit(set("m", "1")), unit(set("n", "1")), sized("o", 50)}, api.ErrFull},
		{"the same twice", [][]change{sized("k", 90), sized("l", 80), sized("k", 90), sized("l", 80), sized("l", 80)}, api.OK},
	} {
		d, s, m := made(t, 8)
		is(t, "5.3: "+x.what, commits(t, "5.3: "+x.what, d, s, m, x.units...), x.want)
	}
}

// TestCantBeLaid: 1000 pairs can be laid as one unit, 1001 can't, though an
// area has room for them.
func TestCantBeLaid(t *testing.T) {
	d, s, m := made(t, api.MaxSectors)
	many, big := sets(1000, 0, "k"), unit(set("big", strings.Repeat("v", 60000)))
	is(t, "5.3: 1001 pairs", commits(t, "5.3: 1001 pairs", d, s, m, many, big, big), api.OK)
	if len(m.pairs) != 1001 || m.resets != 0 {
		t.Fatalf("5.3: %d pairs, %d Resets", len(m.pairs), m.resets)
	}
	was := look(d)
	is(t, "5.3: can't be laid", commits(t, "5.3: can't be laid", d, s, m, big), api.ErrFull)
	untouched(t, "5.3: can't be laid", d, was)
	is(t, "5.3: one more can be laid", commits(t, "5.3: one more can be laid", d, s, m, unit(set("x", "y")), big), api.ErrFull)
	fewer := append(slices.Clone(big), gone("x"), gone("kaaa"))
	is(t, "5.3: 1000 pairs", commits(t, "5.3: 1000 pairs", d, s, m, fewer), api.OK)
	if len(m.pairs) != 1000 || m.resets != 1 || len(m.units) != 1 {
		t.Fatalf("5.3: %d pairs, %d Resets", len(m.pairs), m.resets)
	}
}

// TestRoomOfMoreThanCanBeLaid: with 1001 pairs there is just the room behind
// the log's units, to its last sector; no Reset makes more of it.
func TestRoomOfMoreThanCanBeLaid(t *testing.T) {
	for _, left := range []int{1, 2, 5} {
		d, s, m := made(t, api.MaxSectors)
		many, one := sets(1000, 0, "k"), sized("x", 56)
		fine(t, "5.3: 1000 pairs", commits(t, "5.3: 1000 pairs", d, s, m, many, one))
		for m.half-m.used() > left {
			fill := min(1000, m.half-m.used()-left)
			fine(t, "5.3: fill up", commits(t, "5.3: fill up", d, s, m, sized("x", 64*fill-8)))
		}
		is(t, "5.3: too great", commits(t, "5.3: too great", d, s, m, sized("x", 64*left-7)), api.ErrFull)
		ones := slices.Repeat([][]change{one}, left)
		if s.Fits(append(ones, one)) || s.Fits([][]change{one, sized("x", 64*left-8)}) || !s.Fits([][]change{sized("x", 64*left-8)}) {
			t.Errorf("5.3: Fits where %d sectors are left", left)
		}
		is(t, "5.3: to the last sector", commits(t, "5.3: to the last sector", d, s, m, ones...), api.OK)
		is(t, "5.3: beyond it", commits(t, "5.3: beyond it", d, s, m, one), api.ErrFull)
	}
}

// TestRoomBehindAReset: that of the other area behind the one unit.
func TestRoomBehindAReset(t *testing.T) {
	many, big, one := sets(999, 0, "k"), sized("big", 64*900-8), sized("x", 56)
	for more := range 2 {
		d, s, m := made(t, api.MaxSectors)
		fine(t, "5.3: 1000 pairs", commits(t, "5.3: 1000 pairs", d, s, m, many, big, big))
		left := m.half - sectors(laid(append(slices.Clone(many), big...))) - 900
		units := [][]change{big, one, sized("x", 64*900-8)}
		units = append(units, slices.Repeat([][]change{one}, left-1+more)...)
		is(t, "5.3: behind a Reset", commits(t, "5.3: behind a Reset", d, s, m, units...), []api.Errno{api.OK, api.ErrFull}[more])
		if m.resets != 1 || m.used() != m.half || len(m.pairs) != 1001 {
			t.Errorf("5.3: behind a Reset: %d Resets, %d of %d sectors, %d pairs", m.resets, m.used(), m.half, len(m.pairs))
		}
	}
}

// TestUnits: each Append is one more, each Reset leaves one.
func TestUnits(t *testing.T) {
	d, s, m := made(t, 8)
	var told []int
	for range 8 {
		commits(t, "5.3: Units", d, s, m, unit(set("a", "1")))
		told = append(told, s.Units())
	}
	if !slices.Equal(told, []int{1, 2, 3, 1, 2, 3, 1, 2}) {
		t.Errorf("5.3: Units: %v", told)
	}
}

// TestCommitKeepsNothing: R2, of Commit and Fits, by Append and by Reset.
func TestCommitKeepsNothing(t *testing.T) {
	for _, full := range []bool{false, true} {
		d, s, m := made(t, 8)
		if full {
			d, s, m = filled(t)
		}
		value := roomy("value")
		long := []change{{Key: "k", Has: true, Value: value}, gone("gone"), set("spare", "spare")}
		lists := [][]change{long[:2], nil, unit(set("spare", "spare"))}
		units := lists[:2]
		s.Fits(units)
		if n, e := s.Commit(units); n != 2 || e != api.OK {
			t.Fatalf("5.3: Commit: %d, %d", n, e)
		}
		m.commit([][]change{unit(set("k", "value"), gone("gone"))})
		if string(value) != "value" || !spareIs(value) || !sameChanges(long, unit(set("k", "value"), gone("gone"), set("spare", "spare"))) || len(lists[2]) != 1 || lists[1] != nil {
			t.Error("R2: Commit changed what was handed in")
		}
		scribble(value)
		clear(long)
		agrees(t, "R2: Commit kept what was handed in", d, s, m)
		got, _ := s.Get("k")
		scribble(got)
		commits(t, "R2: what Get answered was written over", d, s, m, unit(set("x", "1")))
		commits(t, "R2: what Get answered was written over", d, s, m, unit(set("x", "2")))
		commits(t, "R2: what Get answered was written over", d, s, m, unit(set("x", "3")))
	}
}

// TestLongRunOfCommits: any units on disks of any size, held against the
// model, reopened now and then.
func TestLongRunOfCommits(t *testing.T) {
	seen := map[api.Errno]int{}
	resets := 0
	for seed := range uint32(60) {
		draw := drawer(seed)
		d, s, m := made(t, 8+draw(40))
		for range 60 {
			seen[commits(t, "5.3: a long run", d, s, m, drawnUnits(draw)...)]++
			if draw(5) == 0 {
				s = opens(t, "5.2: a long run", d, m.pairs, len(m.units))
			}
		}
		resets += m.resets
	}
	if seen[api.OK] < 500 || seen[api.ErrFull] < 100 || seen[api.ErrArg] < 100 || resets < 500 {
		t.Errorf("the long run went few ways: %v, %d Resets", seen, resets)
	}
}

// drawnUnits answers units of few keys.
func drawnUnits(draw func(n int) int) [][]change {
	var units [][]change
	for range draw(5) {
		var l []change
		for range draw(5) {
			key := string([]byte{byte('a' + draw(6))})
			switch draw(30) {
			case 0:
				l = append(l, set("", key))
			case 1, 2, 3, 4, 5, 6, 7, 8:
				l = append(l, gone(key))
			case 9:
				l = append(l, set(key, strings.Repeat("v", draw(900))))
			default:
				l = append(l, set(key, strings.Repeat("v", draw(60))))
			}
		}
		units = append(units, l)
	}
	return units
}
