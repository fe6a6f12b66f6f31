package disk_test

import (
	"math"
	"slices"
	"testing"

	"locksmith/api"
	"locksmith/disk"
)

// fallen fails unless the disk is down, and every call tells so.
func fallen(t *testing.T, what string, d *disk.Disk) {
	t.Helper()
	works, pends := d.Works(), len(d.Pending())
	if !d.Down() {
		t.Errorf("%s: it is not down", what)
	}
	for at := range d.Sectors() {
		refuses(t, what, d, at, api.ErrDown)
	}
	if e := d.Write(0, filled(9)); e != api.ErrDown {
		t.Errorf("%s: Write: %d", what, e)
	}
	if e := d.Flush(); e != api.ErrDown {
		t.Errorf("%s: Flush: %d", what, e)
	}
	if !d.Down() || d.Works() != works || len(d.Pending()) != pends {
		t.Errorf("%s: down %t, %d works, %d pend; ahead of it %d works, %d pend", what, d.Down(), d.Works(), len(d.Pending()), works, pends)
	}
}

// stands fails unless the disk is up.
func stands(t *testing.T, what string, d *disk.Disk) {
	t.Helper()
	if d.Down() {
		t.Errorf("%s: it is down", what)
	}
	if _, e := d.Read(0); e != api.OK {
		t.Errorf("%s: Read: %d", what, e)
	}
}

func TestExamples(t *testing.T) {
	d := made(t)
	wrote(t, d, 1, 1)
	d.Crash([]int{2})
	refuses(t, "3.2: the chapter's first example", d, 1, api.ErrBad)

	d = made(t)
	d.Fuse(1)
	if e := d.Write(1, filled(1)); e != api.OK {
		t.Errorf("3.2: the chapter's second example: Write: %d", e)
	}
	if e := d.Flush(); e != api.ErrDown {
		t.Errorf("3.2: the chapter's second example: Flush: %d", e)
	}
}

func TestFuseLetsWritesBeDone(t *testing.T) {
	for _, n := range []int{0, 1, 2, 3, 10} {
		d := made(t)
		d.Fuse(n)
		for i := range n {
			stands(t, "3.2: ahead of the fall", d)
			wrote(t, d, i%api.MinSectors, i)
		}
		stands(t, "3.2: just ahead of the fall", d)
		if e := d.Write(1, filled(99)); e != api.ErrDown {
			t.Errorf("3.2: Fuse(%d), the Write behind it: %d", n, e)
		}
		fallen(t, "3.2: fallen at a Write", d)
		if d.Works() != n || len(d.Pending()) != n {
			t.Errorf("3.2: Fuse(%d): %d works, %d pend", n, d.Works(), len(d.Pending()))
		}
	}
}

func TestFuseLetsFlushesBeDone(t *testing.T) {
	for _, n := range []int{0, 1, 2, 3, 10} {
		d := made(t)
		wrote(t, d, 1, 1)
		d.Fuse(n)
		for range n {
			stands(t, "3.2: ahead of the fall", d)
			flushed(t, d)
		}
		stands(t, "3.2: just ahead of the fall", d)
		if e := d.Flush(); e != api.ErrDown {
			t.Errorf("3.2: Fuse(%d), the Flush behind it: %d", n, e)
		}
		fallen(t, "3.2: fallen at a Flush", d)
		if d.Works() != n+1 {
			t.Errorf("3.2: Fuse(%d): %d works", n, d.Works())
		}
	}
}

func TestFlushThatFallsDoesNothing(t *testing.T) {
	d := made(t)
	wrote(t, d, 1, 1)
	wrote(t, d, 2, 2)
	d.Fuse(0)
	if e := d.Flush(); e != api.ErrDown {
		t.Fatalf("3.2: Flush: %d", e)
	}
	pend(t, "3.2: Flush fell", d, [2]int{1, 1}, [2]int{2, 2})
	d.Crash(nil)
	has(t, "3.2: all was lost", d, 1, zeros())
	has(t, "3.2: all was lost", d, 2, zeros())
}

func TestWriteThatFallsDoesNotPend(t *testing.T) {
	d := made(t)
	d.Fuse(1)
	wrote(t, d, 1, 1)
	if e := d.Write(1, filled(2)); e != api.ErrDown {
		t.Fatalf("3.2: Write: %d", e)
	}
	pend(t, "3.2: Write fell", d, [2]int{1, 1})
	d.Crash([]int{0, 0})
	has(t, "3.2: the one ahead of it", d, 1, filled(1))
}

func TestWhichCallsAreNoWorks(t *testing.T) {
	d := made(t)
	d.Fuse(1)
	d.Write(-1, filled(1))
	d.Write(api.MinSectors, filled(1))
	d.Write(0, nil)
	d.Write(0, append(filled(1), 1))
	d.Read(0)
	d.Read(-1)
	d.Read(api.MinSectors)
	d.Pending()
	d.Sectors()
	d.Down()
	d.Works()
	d.Copy()
	if d.Works() != 0 {
		t.Errorf("3.2: %d works", d.Works())
	}
	wrote(t, d, 0, 1)
	d.Write(0, nil)
	d.Write(-1, filled(1))
	stands(t, "3.2: a wrong Write lets it not fall", d)
	if e := d.Flush(); e != api.ErrDown || d.Works() != 1 {
		t.Errorf("3.2: Flush: %d, %d works", e, d.Works())
	}
}

func TestWorksAreCounted(t *testing.T) {
	d := made(t)
	d.Fuse(4)
	for i, c := range []struct {
		do   func() api.Errno
		e    api.Errno
		want int
	}{
		{func() api.Errno { return d.Write(1, filled(1)) }, api.OK, 1},
		{func() api.Errno { return d.Write(1, nil) }, api.ErrArg, 1},
		{d.Flush, api.OK, 2},
		{d.Flush, api.OK, 3},
		{func() api.Errno { return d.Write(8, filled(1)) }, api.ErrArg, 3},
		{func() api.Errno { return d.Write(2, filled(1)) }, api.OK, 4},
		{d.Flush, api.ErrDown, 4},
		{d.Flush, api.ErrDown, 4},
		{func() api.Errno { return d.Write(2, filled(1)) }, api.ErrDown, 4},
	} {
		if e := c.do(); e != c.e || d.Works() != c.want {
			t.Errorf("3.2: step %d: %d, %d works, want %d, %d", i, e, d.Works(), c.e, c.want)
		}
	}
	d.Crash([]int{0})
	if d.Works() != 4 {
		t.Errorf("3.2: behind a Crash: %d works, want 4", d.Works())
	}
	flushed(t, d)
	if d.Works() != 5 {
		t.Errorf("3.2: a work behind a Crash: %d works, want 5", d.Works())
	}
}

func TestNoFuseNeverFalls(t *testing.T) {
	for _, n := range []int{-1, -2, -5, math.MinInt, math.MaxInt} {
		d := made(t)
		d.Fuse(n)
		for i := range 300 {
			wrote(t, d, i%api.MinSectors, i)
			if i%3 == 0 {
				flushed(t, d)
			}
		}
		stands(t, "3.2: it does not fall", d)
	}
	d := made(t)
	for i := range 300 {
		wrote(t, d, i%api.MinSectors, i)
	}
	stands(t, "3.2: a new disk has no fuse", d)
}

func TestLastFuseCounts(t *testing.T) {
	for _, c := range []struct {
		what  string
		fuses []int
		works int // done ahead of the fall; below 0: it does not fall
	}{
		{"0, then below 0", []int{0, -1}, -1},
		{"some, then below 0", []int{3, -7}, -1},
		{"below 0, then 0", []int{-1, 0}, 0},
		{"below 0, then some", []int{-1, 2}, 2},
		{"some, then fewer", []int{5, 1}, 1},
		{"some, then more", []int{1, 5}, 5},
		{"0, then some", []int{0, 2}, 2},
		{"three of them", []int{1, 7, 2}, 2},
	} {
		d := made(t)
		for _, n := range c.fuses {
			d.Fuse(n)
		}
		done := 0
		for done < 20 && d.Write(1, filled(1)) == api.OK {
			done++
		}
		if c.works < 0 && (done != 20 || d.Down()) || c.works >= 0 && (done != c.works || !d.Down()) {
			t.Errorf("3.2: %s: %d works, down %t", c.what, done, d.Down())
		}
	}
}

func TestFuseCountsFromItsCallOn(t *testing.T) {
	d := made(t)
	d.Fuse(2)
	wrote(t, d, 1, 1)
	d.Fuse(2)
	wrote(t, d, 1, 2)
	wrote(t, d, 1, 3)
	if e := d.Write(1, filled(4)); e != api.ErrDown || d.Works() != 3 {
		t.Errorf("3.2: %d, %d works", e, d.Works())
	}
}

func TestFuseBringsNoneUp(t *testing.T) {
	for _, n := range []int{-1, 0, 1, 5} {
		d := made(t)
		d.Fuse(0)
		d.Flush()
		d.Fuse(n)
		fallen(t, "3.2: a Fuse while it is down", d)
		d.Crash(nil)
		for range 20 {
			wrote(t, d, 1, 1)
		}
		stands(t, "3.2: up again without a Fuse", d)
	}
}

func TestCrashBringsItUpWithoutAFuse(t *testing.T) {
	d := made(t)
	d.Fuse(1)
	wrote(t, d, 1, 1)
	d.Flush()
	fallen(t, "3.2", d)
	d.Crash([]int{0})
	stands(t, "3.2: behind a Crash", d)
	for range 20 {
		wrote(t, d, 2, 2)
		flushed(t, d)
	}
	stands(t, "3.2: without a Fuse", d)

	d.Fuse(3)
	d.Crash(nil)
	for range 20 {
		wrote(t, d, 2, 2)
	}
	stands(t, "3.2: a fuse that did not burn is gone, too", d)

	d.Fuse(0)
	d.Crash(nil)
	flushed(t, d)
	d.Fuse(0)
	d.Flush()
	fallen(t, "3.2: a Fuse behind a Crash", d)
}

func TestFates(t *testing.T) {
	const done, lost, torn = 0, 1, 2
	for fate, want := range map[int]int{
		0: done, 1: lost, 2: torn,
		3: done, 4: lost, 5: torn, 6: done, 299: torn, 300: done, 301: lost,
		-1: torn, -2: lost, -3: done, -4: torn, -5: lost, -6: done, -299: lost, -300: done, -301: torn,
		math.MaxInt: lost, math.MaxInt - 1: done, math.MaxInt - 2: torn,
		math.MinInt: lost, math.MinInt + 1: torn, math.MinInt + 2: done,
	} {
		d := made(t)
		wrote(t, d, 4, 1)
		flushed(t, d)
		wrote(t, d, 4, 2)
		d.Crash([]int{fate})
		switch want {
		case done:
			has(t, "3.2: done", d, 4, filled(2))
		case lost:
			has(t, "3.2: lost", d, 4, filled(1))
		case torn:
			refuses(t, "3.2: torn", d, 4, api.ErrBad)
		}
		pend(t, "3.2: behind a Crash", d)
		has(t, "3.2: another sector", d, 3, zeros())
	}
}

func TestFatesInOrder(t *testing.T) {
	d := made(t)
	for n := range 7 {
		wrote(t, d, n, n)
	}
	d.Crash([]int{1, 0, 2, -3, -1, 4, 6})
	has(t, "3.2: lost", d, 0, zeros())
	has(t, "3.2: done", d, 1, filled(1))
	refuses(t, "3.2: torn", d, 2, api.ErrBad)
	has(t, "3.2: done", d, 3, filled(3))
	refuses(t, "3.2: torn", d, 4, api.ErrBad)
	has(t, "3.2: lost", d, 5, zeros())
	has(t, "3.2: done", d, 6, filled(6))
	has(t, "3.2: not written", d, 7, zeros())
	pend(t, "3.2", d)
}

func TestFewerFatesThanWrites(t *testing.T) {
	for _, fates := range [][]int{nil, {}, {0}, {0, 0}} {
		d := made(t)
		for n := range 3 {
			wrote(t, d, n, n)
		}
		d.Crash(fates)
		for n := range 3 {
			want := zeros()
			if n < len(fates) {
				want = filled(n)
			}
			has(t, "3.2: fewer fates", d, n, want)
		}
		pend(t, "3.2: fewer fates", d)
	}
}

func TestMoreFatesThanWrites(t *testing.T) {
	d := made(t)
	wrote(t, d, 1, 1)
	d.Crash([]int{0, 2, 2, 2})
	has(t, "3.2: more fates", d, 1, filled(1))
	wrote(t, d, 2, 2)
	d.Crash([]int{0})
	has(t, "3.2: fates that were left over are not kept", d, 2, filled(2))
	d.Crash([]int{2, 2, 2})
	for at := range api.MinSectors {
		if _, e := d.Read(at); e != api.OK {
			t.Errorf("3.2: a Crash while nothing pends: Read(%d): %d", at, e)
		}
	}
}

func TestFatesOfOneSector(t *testing.T) {
	// What two writes, 1 and 2, leave of a sector that has 0; below 0: bad.
	for _, c := range []struct{ first, second, want int }{
		{0, 0, 2}, {0, 1, 1}, {0, 2, -1},
		{1, 0, 2}, {1, 1, 0}, {1, 2, -1},
		{2, 0, 2}, {2, 1, -1}, {2, 2, -1},
	} {
		d := made(t)
		wrote(t, d, 4, 0)
		flushed(t, d)
		wrote(t, d, 4, 1)
		wrote(t, d, 4, 2)
		d.Crash([]int{c.first, c.second})
		if c.want < 0 {
			refuses(t, "3.2: two of one sector", d, 4, api.ErrBad)
			continue
		}
		has(t, "3.2: two of one sector", d, 4, filled(c.want))
	}
}

func TestWriteMendsWhatAnEarlierCrashTore(t *testing.T) {
	d := made(t)
	wrote(t, d, 1, 1)
	d.Crash([]int{2})
	refuses(t, "3.2: torn", d, 1, api.ErrBad)
	d.Crash(nil)
	refuses(t, "3.2: a Crash mends nothing", d, 1, api.ErrBad)
	wrote(t, d, 1, 2)
	d.Crash([]int{0})
	has(t, "3.2: a write that is done at a Crash", d, 1, filled(2))
}

func TestCrashOfADiskThatIsUp(t *testing.T) {
	d := made(t)
	wrote(t, d, 1, 1)
	wrote(t, d, 2, 2)
	d.Crash([]int{1, 0})
	stands(t, "3.2", d)
	has(t, "3.2: lost", d, 1, zeros())
	has(t, "3.2: done", d, 2, filled(2))
	flushed(t, d)
	has(t, "3.2: what was lost is not flushed later", d, 1, zeros())
}

func TestCopyIsTheSame(t *testing.T) {
	d := made(t)
	wrote(t, d, 1, 1)
	wrote(t, d, 2, 2)
	d.Crash([]int{0, 2})
	wrote(t, d, 3, 3)
	wrote(t, d, 1, 4)
	d.Fuse(1)
	c := d.Copy()
	if c.Sectors() != d.Sectors() || c.Works() != 4 || c.Down() {
		t.Errorf("3.2: Copy: %d sectors, %d works, down %t", c.Sectors(), c.Works(), c.Down())
	}
	pend(t, "3.2: Copy", c, [2]int{3, 3}, [2]int{1, 4})
	has(t, "3.2: Copy: what pends", c, 1, filled(4))
	refuses(t, "3.2: Copy: what is bad", c, 2, api.ErrBad)
	wrote(t, c, 5, 5)
	if e := c.Flush(); e != api.ErrDown {
		t.Errorf("3.2: Copy: the fuse: %d", e)
	}
	fallen(t, "3.2: Copy of one that is down", c.Copy())
	c.Crash(nil)
	has(t, "3.2: Copy: what was flushed", c, 1, filled(1))
}

func TestCopyIsAnother(t *testing.T) {
	for _, turned := range []bool{false, true} {
		a := made(t)
		wrote(t, a, 1, 1)
		flushed(t, a)
		wrote(t, a, 2, 2)
		b := a.Copy()
		if turned {
			a, b = b, a
		}
		wrote(t, a, 3, 3)
		pend(t, "3.2: a Write to the other", b, [2]int{2, 2})
		wrote(t, b, 4, 4)
		pend(t, "3.2: both were written to", a, [2]int{2, 2}, [2]int{3, 3})
		pend(t, "3.2: both were written to", b, [2]int{2, 2}, [2]int{4, 4})
		wrote(t, a, 1, 9)
		flushed(t, a)
		has(t, "3.2: a Flush of the other", b, 1, filled(1))
		pend(t, "3.2: a Flush of the other", b, [2]int{2, 2}, [2]int{4, 4})
		wrote(t, a, 1, 9)
		a.Crash([]int{2})
		refuses(t, "3.2: torn", a, 1, api.ErrBad)
		has(t, "3.2: a Crash of the other", b, 1, filled(1))
		a.Fuse(0)
		a.Flush()
		stands(t, "3.2: a fall of the other", b)
		if a.Works() != 7 || b.Works() != 4 {
			t.Errorf("3.2: %d and %d works", a.Works(), b.Works())
		}
		b.Crash(nil)
		fallen(t, "3.2: a Crash of the other", a)
	}
}

func TestCopySharesNoListOfWhatPends(t *testing.T) {
	for ahead := range 20 {
		a := made(t)
		var want [][2]int
		for n := range ahead {
			wrote(t, a, 1, n)
			want = append(want, [2]int{1, n})
		}
		b := a.Copy()
		wrote(t, a, 2, 100)
		wrote(t, b, 3, 101)
		pend(t, "3.2: the first", a, append(slices.Clone(want), [2]int{2, 100})...)
		pend(t, "3.2: its copy", b, append(slices.Clone(want), [2]int{3, 101})...)
	}
}
