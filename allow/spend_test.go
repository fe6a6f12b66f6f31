package allow_test

import (
	"math"
	"strconv"
	"testing"

	"locksmith/allow"
	"locksmith/api"
)

// spent is what a Spend at 9 must come to: a reason, what is left, and whether
// anything was taken.
type spent struct {
	what       string
	op, size   int
	count      int64
	unit       int
	want       int
	left       int64
	isTouched  bool
	hasNoLimit bool
}

func TestSpendByHand(t *testing.T) {
	for _, c := range []spent{
		{"nothing", api.Encrypt, 0, 10, 1, 0, 10, false, false},
		{"nothing of nothing", api.Encrypt, 0, 0, 1, 0, 0, false, false},
		{"one byte", api.Encrypt, 1, 10, 1, 0, 9, true, false},
		{"one byte of nothing", api.Encrypt, 1, 0, 1, api.Denied, 0, false, false},
		{"all but one", api.Mac, 9, 10, 1, 0, 1, true, false},
		{"all", api.Mac, 10, 10, 1, 0, 0, true, false},
		{"more than all", api.Mac, 11, 10, 1, api.Denied, 0, false, false},
		{"the most there can be", api.Encrypt, 1 << 40, 1 << 40, 1, 0, 0, true, false},
		{"more than that", api.Encrypt, 1<<40 + 1, 1 << 40, 1, api.Denied, 0, false, false},
		{"far more", api.Encrypt, math.MaxInt, 1 << 40, 1, api.Denied, 0, false, false},
		{"far more in the high bits alone", api.Encrypt, 1<<32 + 1, 10, 1, api.Denied, 0, false, false},
		{"below 0", api.Encrypt, -1, 10, 1, 0, 10, false, false},
		{"below 0 of nothing", api.Mac, -1, 0, 1, 0, 0, false, false},
		{"far below 0", api.Mac, math.MinInt, 10, 1, 0, 10, false, false},
		{"one use", api.Encrypt, 5, 10, 2, 0, 9, true, false},
		{"one use of no bytes", api.Encrypt, 0, 10, 2, 0, 9, true, false},
		{"one use of many bytes", api.Mac, 9999, 10, 2, 0, 9, true, false},
		{"one use of bytes below 0", api.Mac, -7, 10, 2, 0, 9, true, false},
		{"the last use", api.Mac, 99, 1, 2, 0, 0, true, false},
		{"one use more", api.Mac, 1, 0, 2, api.Denied, 0, false, false},
		{"one use more, of no bytes", api.Encrypt, 0, 0, 2, api.Denied, 0, false, false},
		{"opened", api.Decrypt, 5, 10, 1, 0, 10, false, false},
		{"opened, far more", api.Decrypt, 99, 10, 1, 0, 10, false, false},
		{"opened, nothing left", api.Decrypt, 1, 0, 2, 0, 0, false, false},
		{"held against, nothing left", api.MacVerify, 1, 0, 1, 0, 0, false, false},
		{"held against", api.MacVerify, 99, 10, 2, 0, 10, false, false},
		{"no limits", api.Encrypt, 99, 0, 0, 0, 0, false, true},
		{"no limits, tagged", api.Mac, math.MaxInt, 0, 0, 0, 0, false, true},
		{"no limits, numbers for all that", api.Mac, 5, 10, 1, 0, 10, false, true},
		{"no limits, too few for all that", api.Mac, 5, 4, 1, 0, 4, false, true},
		{"no limits, uses for all that", api.Encrypt, 5, 0, 2, 0, 0, false, true},
	} {
		c.check(t)
	}
}

func (c spent) check(t *testing.T) {
	t.Helper()
	o := limited(c.count, c.unit)
	o.Limits.Has = !c.hasNoLimit
	want := o
	want.Limits.Count = c.left
	if c.isTouched {
		want.Dates[api.LastChange] = at(9)
	}
	if c.want != api.Fine {
		want = api.Object{}
	}
	got, reason := allow.Spend(o, c.op, c.size, 9)
	if reason != c.want || !alike(got, want) {
		t.Errorf("12.2: %s: reason %d, not %d: %+v, want %+v", c.what, reason, c.want, got, want)
	}
	checkSpend(t, c.what, o, c.op, c.size, 9)
}

// LastChange is now, whatever it was, just where something was taken.
func TestSpendAndLastChange(t *testing.T) {
	for _, was := range append(dates(9), dates(-5)...) {
		for _, now := range times() {
			for _, unit := range []int{1, 2} {
				for _, size := range []int{-3, 0, 1, 10, 11} {
					for _, op := range four() {
						o := limited(10, unit)
						o.Dates[api.LastChange] = was
						o.Dates[api.ProcessStart], o.Dates[api.ProtectStop] = none, none
						x, reason := checkSpend(t, "LastChange", o, op, size, now)
						want := was
						if x.Limits.Count < 10 {
							want = at(now)
						}
						if reason == api.Fine && x.Dates[api.LastChange] != want {
							t.Errorf("12.2: operation %d, unit %d, %d bytes: LastChange %+v, not %+v", op, unit, size, x.Dates[api.LastChange], want)
						}
					}
				}
			}
		}
	}
}

func TestSpendOfEveryCount(t *testing.T) {
	counts := []int64{0, 1, 2, 15, 16, 17, 1 << 20, 1 << 32, 1<<40 - 1, 1 << 40}
	for _, count := range counts {
		for _, unit := range []int{1, 2} {
			for _, size := range []int{-1 << 40, -17, -1, 0, 1, 2, 15, 16, 17, 18, 1 << 32, int(count) - 1, int(count), int(count) + 1} {
				for _, op := range append(four(), api.Get) {
					for _, state := range states() {
						o := limited(count, unit)
						o.State = state
						checkSpend(t, "count "+strconv.FormatInt(count, 10), o, op, size, 9)
					}
				}
			}
		}
	}
}

// Use's reason comes first, though too little is left, too.
func TestUseComesFirst(t *testing.T) {
	for _, f := range faults() {
		o, op := limited(0, 2), api.Encrypt
		f.turn(&o, &op)
		x, reason := allow.Spend(o, op, 1, 9)
		if reason != f.reason || !isNone(x) {
			t.Errorf("12.2: %s: %d, not %d: %+v", f.what, reason, f.reason, x)
		}
		o.Limits = api.Limits{}
		x, reason = allow.Spend(o, op, 1, 9)
		if reason != f.reason || !isNone(x) {
			t.Errorf("12.2: %s, no limits: %d, not %d: %+v", f.what, reason, f.reason, x)
		}
	}
}

// Limits that are not right: nothing is taken by a Unit that is none, and never
// more than there is.
func TestSpendOfWrongLimits(t *testing.T) {
	for _, unit := range []int{0, 3, -1, 257, 258, 1<<32 + 1, math.MaxInt, math.MinInt, 1, 2} {
		for _, count := range []int64{0, 1, 10, -1, -10, math.MaxInt64, math.MinInt64} {
			for _, total := range []int64{0, 5, -5, math.MaxInt64} {
				for _, size := range []int{0, 1, 10, 11, -1, -10, math.MaxInt, math.MinInt} {
					for _, op := range four() {
						o := limited(count, unit)
						o.Limits.Total = total
						x, _ := checkSpend(t, "wrong limits", o, op, size, 9)
						if x.Id != "" && (x.Limits.Count > count || x.Limits.Count < 0 && x.Limits.Count != count) {
							t.Errorf("12.2: of %d, by %d of unit %d: %d left", count, size, unit, x.Limits.Count)
						}
					}
				}
			}
		}
	}
}

// Spent again and again, it is never more than there was.
func TestSpentAgainAndAgain(t *testing.T) {
	draw := drawer(121)
	for range 300 {
		count, unit := int64(draw(200)), 1+draw(2)
		o, sum, denials := limited(count, unit), int64(0), 0
		for denials < 5 && sum < count {
			op, size := four()[draw(4)], draw(30)-5
			x, reason := checkSpend(t, "again", o, op, size, 9)
			if t.Failed() {
				return
			}
			if reason != api.Fine {
				denials++
				continue
			}
			if mustProtect(op) && unit == 2 {
				sum++
			} else if mustProtect(op) {
				sum += int64(max(size, 0))
			}
			o = x
			if sum+o.Limits.Count != count || o.Limits.Count < 0 {
				t.Fatalf("12.2: of %d were spent %d, and %d are left", count, sum, o.Limits.Count)
			}
		}
	}
}
