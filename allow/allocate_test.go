package allow_test

import (
	"math"
	"testing"

	"locksmith/allow"
	"locksmith/api"
)

// refusal is something that makes an allocation be refused, and why.
type refusal struct {
	what   string
	reason int
	turn   func(o *api.Object, count *int64)
}

// refusals are those of an object that has 44 left, in the order in which the
// chapter names their reasons.
func refusals() []refusal {
	return []refusal{
		{"archived", api.Archived, func(o *api.Object, count *int64) { o.Archived = true }},
		{"no limits", api.Illegal, func(o *api.Object, count *int64) { o.Limits.Has = false }},
		{"deactivated", api.Illegal, func(o *api.Object, count *int64) { o.State = api.Deactivated }},
		{"too great a count", api.Field, func(o *api.Object, count *int64) { *count = 1<<40 + 1 }},
		{"too little", api.Denied, func(o *api.Object, count *int64) { o.Limits.Count = 3 }},
	}
}

func TestEverySetOfRefusals(t *testing.T) {
	all := refusals()
	for set := range 1 << len(all) {
		o, count, want, what := full(api.Active), int64(4), api.Fine, ""
		for i, r := range all {
			if set>>i&1 == 0 {
				continue
			}
			r.turn(&o, &count)
			what += r.what + ", "
			if want == api.Fine {
				want = r.reason
			}
		}
		x, reason := checkAllocate(t, what, o, count, 9)
		if reason != want || isNone(x) != (want != api.Fine) {
			t.Errorf("12.2: %s: %d, not %d: %+v", what, reason, want, x)
		}
	}
}

func TestAllocateByHand(t *testing.T) {
	for _, c := range []struct {
		what  string
		left  int64
		count int64
		want  int
	}{
		{"nothing", 10, 0, api.Field},
		{"nothing of nothing", 0, 0, api.Field},
		{"below 0", 10, -1, api.Field},
		{"far below 0", 10, math.MinInt64, api.Field},
		{"one", 10, 1, api.Fine},
		{"one of nothing", 0, 1, api.Denied},
		{"all but one", 10, 9, api.Fine},
		{"all", 10, 10, api.Fine},
		{"one more", 10, 11, api.Denied},
		{"the most", 1 << 40, 1 << 40, api.Fine},
		{"the most, of one less", 1<<40 - 1, 1 << 40, api.Denied},
		{"the most, of few", 10, 1 << 40, api.Denied},
		{"one more than the most", 1 << 40, 1<<40 + 1, api.Field},
		{"one more than the most, of few", 10, 1<<40 + 1, api.Field},
		{"far more", 10, math.MaxInt64, api.Field},
		{"in the high bits alone", 10, 1<<32 + 1, api.Denied},
	} {
		for _, unit := range []int{1, 2} {
			for _, state := range []int{api.PreActive, api.Active} {
				o := limited(c.left, unit)
				o.State = state
				want := o
				want.Limits.Count -= c.count
				want.Dates[api.LastChange] = at(9)
				if c.want != api.Fine {
					want = api.Object{}
				}
				got, reason := allow.Allocate(o, c.count, 9)
				if reason != c.want || !alike(got, want) {
					t.Errorf("12.2: %s, unit %d: reason %d, not %d: %+v, want %+v", c.what, unit, reason, c.want, got, want)
				}
			}
		}
	}
}

func TestAllocateOfEveryState(t *testing.T) {
	for _, state := range states() {
		want := api.Illegal
		if state == api.PreActive || state == api.Active {
			want = api.Fine
		}
		for _, now := range times() {
			o := limited(10, 1)
			o.State = state
			if _, reason := allow.Allocate(o, 10, now); reason != want {
				t.Errorf("12.2: state %d: %d, not %d", state, reason, want)
			}
			for _, o.Limits.Has = range []bool{true, false} {
				for _, o.Archived = range []bool{true, false} {
					for _, count := range []int64{-1, 0, 1, 10, 11, 1 << 40, 1<<40 + 1} {
						checkAllocate(t, "a state", o, count, now)
					}
				}
			}
		}
	}
}

// What the object is does not count, nor its mask, nor its dates: it need not
// be a key that data is sealed with.
func TestTheRestDoesNotHinder(t *testing.T) {
	for i, turn := range []func(o *api.Object){
		func(o *api.Object) { o.Type = api.Secret },
		func(o *api.Object) { o.Type = -1 },
		func(o *api.Object) { o.Algorithm = 4 },
		func(o *api.Object) { o.Mask = 0 },
		func(o *api.Object) { o.Material = nil },
		func(o *api.Object) { o.Dates = [api.DateCount]api.Date{} },
		func(o *api.Object) { o.Dates[api.ProcessStart] = at(99999) },
		func(o *api.Object) { o.Dates[api.ProtectStop] = at(-99999) },
		func(o *api.Object) { o.Dates[api.Deactivation] = at(-99999) },
		func(o *api.Object) { o.Id, o.Reason = "", 99 },
		func(o *api.Object) { o.Limits.Unit = 0 },
		func(o *api.Object) { o.Limits.Total = 0 },
	} {
		for _, state := range []int{api.PreActive, api.Active} {
			o := limited(10, 2)
			o.State = state
			turn(&o)
			if x, reason := checkAllocate(t, "the rest", o, 4, 9); reason != api.Fine || x.Limits.Count != 6 {
				t.Errorf("12.2: %d: Allocate of state %d: %d, %+v", i, state, reason, x.Limits)
			}
		}
	}
}

func TestAllocateOfWrongLimits(t *testing.T) {
	for _, has := range []bool{true, false} {
		for _, unit := range []int{0, 3, -1, 1, 2} {
			for _, left := range []int64{0, 1, 10, -1, -10, math.MaxInt64, math.MinInt64} {
				for _, count := range []int64{0, 1, 10, 11, -1, 1 << 40, 1<<40 + 1, math.MaxInt64, math.MinInt64} {
					o := limited(left, unit)
					o.Limits.Has = has
					checkAllocate(t, "wrong limits", o, count, 9)
				}
			}
		}
	}
}

// Allocated and spent in turns, it is never more than there was.
func TestAllocatedAndSpent(t *testing.T) {
	draw := drawer(122)
	ends := 0
	for range 300 {
		count, unit := int64(draw(200)), 1+draw(2)
		o, sum := limited(count, unit), int64(0)
		for now := range int64(60) {
			size := draw(20) - 3
			takes := int64(size)
			x, reason := o, api.Fine
			if draw(2) == 0 {
				x, reason = checkAllocate(t, "in turns", o, takes, now)
			} else {
				x, reason = checkSpend(t, "in turns", o, api.Encrypt, size, now)
				takes = max(takes, 0)
				if unit == 2 {
					takes = 1
				}
			}
			if t.Failed() {
				return
			}
			if reason == api.Fine {
				o, sum = x, sum+takes
			}
			if sum+o.Limits.Count != count || o.Limits.Count < 0 || o.Limits.Total != 1<<40 {
				t.Fatalf("12.2: of %d were taken %d, and %+v is left", count, sum, o.Limits)
			}
		}
		if o.Limits.Count == 0 {
			ends++
		}
	}
	if ends < 30 {
		t.Errorf("%d came to their end", ends)
	}
}
