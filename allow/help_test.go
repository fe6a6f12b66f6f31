package allow_test

import (
	"math"
	"reflect"
	"strings"
	"testing"

	"locksmith/allow"
	"locksmith/api"
)

// The calls stand with the signatures that the chapter lists.
var (
	_ func(o api.Object, op int, now int64) int                         = allow.Use
	_ func(op int) int                                                  = allow.Bit
	_ func(o api.Object, op int, size int, now int64) (api.Object, int) = allow.Spend
	_ func(o api.Object, count int64, now int64) (api.Object, int)      = allow.Allocate
)

// drawer answers a source of numbers from 0 to below n in no plain order, the
// same for the same seed.
func drawer(seed uint64) func(n int) int {
	return func(n int) int {
		seed = seed*6364136223846793005 + 1442695040888963407
		return int((seed >> 20) % uint64(n))
	}
}

// at is a date, none is none, and bare is none that has a time for all that.
func at(n int64) api.Date { return api.Date{Has: true, At: n} }

var none api.Date

func bare(n int64) api.Date { return api.Date{At: n} }

// letters answers a text of so many bytes.
func letters(n int) string { return strings.Repeat("a", n) }

// Reasons as the chapter's words stand for them.
const (
	fine        = 0
	unsupported = 5
	field       = 7
	illegal     = 11
	denied      = 12
	archived    = 13
)

// four are the operations that a key is used for.
func four() []int { return []int{31, 32, 35, 36} }

// ofState is a key that may do all that its state lets it, and has no more than
// it must have.
func ofState(state int) api.Object {
	return api.Object{
		Id: "x", Type: api.Symmetric, Algorithm: 3, Length: 128, Mask: 4 + 8 + 128 + 256,
		Material: []byte("sixteen bytes..."), State: state,
	}
}

// full is a key that has all that one may have; it has started and does not
// stop soon, and nothing of the rest hinders it.
func full(state int) api.Object {
	o := ofState(state)
	o.Id, o.Length, o.Mask, o.Reason, o.Message = "grün", 256, api.MaskBits, 5, "why"
	o.Material = []byte("a key of two and thirty bytes ..")
	o.Names = []string{"ab", "a", "b"}
	o.Links = []api.Link{{Type: 101, Id: "8"}, {Type: 110, Id: "8"}}
	o.Custom = []api.Custom{{Name: "x-a", Text: "1"}, {Name: "x-b", Text: "1"}}
	o.Limits = api.Limits{Has: true, Total: 77, Count: 44, Unit: 1}
	for i := range o.Dates {
		o.Dates[i] = at(int64(1000 + i))
	}
	o.Dates[api.ProcessStart], o.Dates[api.ProtectStop] = at(-2000), at(2000)
	return o
}

// limited is a full one that is active, with such limits.
func limited(count int64, unit int) api.Object {
	o := full(api.Active)
	o.Limits = api.Limits{Has: true, Total: 1 << 40, Count: count, Unit: unit}
	return o
}

// states are all that are one, and some numbers that are none.
func states() []int {
	return []int{1, 2, 3, 4, 5, 6, 0, -1, 7, 8, 257, 258, 259, 260, 1<<32 + 2, math.MaxInt, math.MinInt}
}

// times are some at which something is asked.
func times() []int64 {
	return []int64{0, 5, -5, 2000, api.MaxTime, -1 << 40, 1 << 32, math.MaxInt64, math.MinInt64}
}

// mustBit is the bit of an operation, worked out here.
func mustBit(op int) int { return map[int]int{31: 4, 32: 8, 35: 128, 36: 256}[op] }

func mustProtect(op int) bool { return op == 31 || op == 35 }

// mustUse is what the chapter says of a use, worked out here.
func mustUse(o api.Object, op int, now int64) int {
	bit := mustBit(op)
	if bit == 0 {
		return unsupported
	}
	if o.Archived {
		return archived
	}
	if uint64(o.Mask)/uint64(bit)%2 == 0 {
		return denied
	}
	lengths := map[int]int{16: 1, 24: 1, 32: 1}
	if o.Type != 2 || o.Algorithm != 3 || lengths[len(o.Material)] == 0 {
		return illegal
	}
	row := "-ayy--"
	if mustProtect(op) {
		row = "-p----"
	}
	if o.State < 1 || o.State > 6 {
		return illegal
	}
	start, stop := o.Dates[2], o.Dates[3]
	begun := !start.Has || !(start.At > now)
	over := stop.Has && !(stop.At > now)
	switch row[o.State-1] {
	case 'y':
		return fine
	case 'a':
		if begun {
			return fine
		}
	case 'p':
		if begun && !over {
			return fine
		}
	}
	return illegal
}

// mustSpend is what the chapter says of Spend, worked out here.
func mustSpend(o api.Object, op, size int, now int64) (api.Object, int) {
	if r := mustUse(o, op, now); r != fine {
		return api.Object{}, r
	}
	if !o.Limits.Has || !mustProtect(op) {
		return o, fine
	}
	takes := int64(0)
	if o.Limits.Unit == 2 {
		takes = 1
	} else if o.Limits.Unit == 1 && size > 0 {
		takes = int64(size)
	}
	return mustTake(o, takes, now)
}

// mustAllocate is what the chapter says of Allocate, worked out here.
func mustAllocate(o api.Object, count, now int64) (api.Object, int) {
	if o.Archived {
		return api.Object{}, archived
	}
	if !o.Limits.Has || o.State != 1 && o.State != 2 {
		return api.Object{}, illegal
	}
	if count < 1 || count > 1099511627776 {
		return api.Object{}, field
	}
	return mustTake(o, count, now)
}

func mustTake(o api.Object, takes, now int64) (api.Object, int) {
	if o.Limits.Count < takes {
		return api.Object{}, denied
	}
	if takes != 0 {
		o.Limits.Count -= takes
		o.Dates[9] = at(now)
	}
	return o, fine
}

// tidy answers the object with nil in the place of each empty list.
func tidy(o api.Object) api.Object {
	if len(o.Material) == 0 {
		o.Material = nil
	}
	if len(o.Names) == 0 {
		o.Names = nil
	}
	if len(o.Links) == 0 {
		o.Links = nil
	}
	if len(o.Custom) == 0 {
		o.Custom = nil
	}
	return o
}

// alike tells whether all fields are the same; nil and an empty list are.
func alike(a, b api.Object) bool { return reflect.DeepEqual(tidy(a), tidy(b)) }

// isNone tells whether it is the zero object, its lists nil.
func isNone(o api.Object) bool { return reflect.DeepEqual(o, api.Object{}) }

// checkUse holds what Use answers against what is worked out here.
func checkUse(t *testing.T, what string, o api.Object, op int, now int64) int {
	t.Helper()
	got, want := allow.Use(o, op, now), mustUse(o, op, now)
	if got != want {
		t.Errorf("12.1: %s: Use for %d at %d: %d, not %d: %+v", what, op, now, got, want, o)
	}
	return got
}

// checkSpend holds what Spend answers against what is worked out here; it
// answers the object that is left, and the reason.
func checkSpend(t *testing.T, what string, o api.Object, op, size int, now int64) (api.Object, int) {
	t.Helper()
	want, reason := mustSpend(o, op, size, now)
	got, r := allow.Spend(o, op, size, now)
	checkLeft(t, what+": Spend", o, got, r, want, reason)
	if use := allow.Use(o, op, now); use != fine && use != r {
		t.Errorf("12.2: %s: Use answers %d, and Spend %d", what, use, r)
	}
	return got, r
}

// checkAllocate does the same for Allocate.
func checkAllocate(t *testing.T, what string, o api.Object, count, now int64) (api.Object, int) {
	t.Helper()
	want, reason := mustAllocate(o, count, now)
	got, r := allow.Allocate(o, count, now)
	checkLeft(t, what+": Allocate", o, got, r, want, reason)
	return got, r
}

func checkLeft(t *testing.T, what string, o, got api.Object, r int, want api.Object, reason int) {
	t.Helper()
	if r != reason {
		t.Errorf("12.2: %s: reason %d, not %d: %+v", what, r, reason, o)
	} else if r != fine {
		if !isNone(got) {
			t.Errorf("R3: %s: beside reason %d %+v", what, r, got)
		}
	} else if !alike(got, want) {
		t.Errorf("12.2: %s: %+v, want %+v", what, got, want)
	}
}
