package life_test

import (
	"math"
	"reflect"
	"slices"
	"strings"
	"testing"

	"locksmith/api"
	"locksmith/life"
)

// The calls stand with the signatures that the chapter lists.
var (
	_ func(from, to int) bool                                                                        = life.Edge
	_ func(o api.Object, now int64) api.Object                                                       = life.Move
	_ func(o api.Object, now int64) []int                                                            = life.Due
	_ func(o api.Object) (int64, bool)                                                               = life.Next
	_ func(o api.Object, now int64) (api.Object, int)                                                = life.Activate
	_ func(o api.Object, reason int, message string, occurred api.Date, now int64) (api.Object, int) = life.Revoke
	_ func(o api.Object, now int64) (api.Object, int)                                                = life.Destroy
	_ func(o api.Object, now int64) (api.Object, int)                                                = life.Archive
	_ func(o api.Object, now int64) (api.Object, int)                                                = life.Recover
)

// drawer answers a source of numbers from 0 to below n in no plain order, the
// same for the same seed.
func drawer(seed uint64) func(n int) int {
	return func(n int) int {
		seed = seed*6364136223846793005 + 1442695040888963407
		return int((seed >> 20) % uint64(n))
	}
}

// at is a date, none is none.
func at(n int64) api.Date { return api.Date{Has: true, At: n} }

var none api.Date

// letters answers a text of so many bytes.
func letters(n int) string { return strings.Repeat("a", n) }

// plain is an object that has nothing but what it must have.
func plain(state int) api.Object {
	return api.Object{Id: "x", Type: api.Secret, State: state}
}

// full is an object that has all that one may have, no two dates of it alike.
func full(state int) api.Object {
	o := api.Object{
		Id: "grün", Type: api.Symmetric, Algorithm: 3, Length: 256, Mask: 0x0a0b0c,
		Material: []byte{9, 0, 255, 7}, State: state, Reason: 5, Message: "why",
		Names:  []string{"ab", "a", "b"},
		Links:  []api.Link{{Type: 101, Id: "8"}, {Type: 110, Id: "8"}},
		Custom: []api.Custom{{Name: "x-a", Text: "1"}, {Name: "x-b", Text: "1"}},
		Limits: api.Limits{Has: true, Total: 77, Count: 44, Unit: 2},
	}
	for i := range o.Dates {
		o.Dates[i] = at(int64(1000 + i))
	}
	return o
}

// states are all that are one, and some numbers that are none.
func states() []int {
	return []int{1, 2, 3, 4, 5, 6, 0, -1, 7, 8, 257, 1<<32 + 1, math.MaxInt, math.MinInt}
}

// isEdge is one of the chapter's, worked out here.
func isEdge(from, to int) bool {
	for _, e := range strings.Fields("12 14 15 23 24 34 35 46 56") {
		if from == int(e[0]-'0') && to == int(e[1]-'0') {
			return true
		}
	}
	return false
}

// moved is what time does, worked out here: the object behind it, and the
// states that it goes through.
func moved(o api.Object, now int64) (api.Object, []int) {
	come := func(d api.Date) bool { return d.Has && !(d.At > now) }
	var through []int
	if o.State == 1 && come(o.Dates[1]) {
		through = []int{2}
	}
	if (o.State == 2 || len(through) == 1) && come(o.Dates[4]) {
		through = append(through, 3)
	}
	if len(through) > 0 {
		o.State = through[len(through)-1]
		o.Dates[9] = at(now)
	}
	return o, through
}

// following is how Next must tell, worked out here by trying: Move can do
// something new only from one of the object's dates on.
func following(o api.Object) (int64, bool) {
	least, ok := int64(0), false
	for _, d := range o.Dates {
		if !d.Has || ok && d.At >= least {
			continue
		}
		if _, through := moved(o, d.At); len(through) > 0 {
			least, ok = d.At, true
		}
	}
	return least, ok
}

// asked is what the five calls are asked for beside the object.
type asked struct {
	reason   int
	message  string
	occurred api.Date
	now      int64
}

// call is one of the five, and what the chapter says of it, worked out here.
type call struct {
	name string
	ask  func(o api.Object, a asked) (api.Object, int)
	must func(o api.Object, a asked) (api.Object, int)
}

func five() []call {
	return []call{
		{"Activate", func(o api.Object, a asked) (api.Object, int) { return life.Activate(o, a.now) }, mustActivate},
		{"Revoke", func(o api.Object, a asked) (api.Object, int) {
			return life.Revoke(o, a.reason, a.message, a.occurred, a.now)
		}, mustRevoke},
		{"Destroy", func(o api.Object, a asked) (api.Object, int) { return life.Destroy(o, a.now) }, mustDestroy},
		{"Archive", func(o api.Object, a asked) (api.Object, int) { return life.Archive(o, a.now) }, mustArchive},
		{"Recover", func(o api.Object, a asked) (api.Object, int) { return life.Recover(o, a.now) }, mustRecover},
	}
}

// called answers the call of that name.
func called(name string) call {
	all := five()
	return all[slices.IndexFunc(all, func(c call) bool { return c.name == name })]
}

// Reasons as the chapter's words stand for them.
const (
	fine     = 0
	field    = 7
	illegal  = 11
	archived = 13
)

func mustActivate(o api.Object, a asked) (api.Object, int) {
	if o.Archived {
		return api.Object{}, archived
	}
	if o.State != 1 {
		return api.Object{}, illegal
	}
	o.State, o.Dates[1], o.Dates[9] = 2, at(a.now), at(a.now)
	return o, fine
}

func mustRevoke(o api.Object, a asked) (api.Object, int) {
	long := len(a.message) > 120 || string([]rune(a.message)) != a.message
	late := a.occurred.Has && a.occurred.At > a.now || a.occurred.At != 0 && !a.occurred.Has
	if a.reason < 1 || a.reason > 7 || long || late {
		return api.Object{}, field
	}
	if o.Archived {
		return api.Object{}, archived
	}
	column := "-3----"
	if a.reason == 2 {
		column = "444-6-"
	}
	if o.State < 1 || o.State > 6 || column[o.State-1] == '-' {
		return api.Object{}, illegal
	}
	o.State = int(column[o.State-1] - '0')
	if a.reason == 2 {
		o.Dates[7], o.Dates[6] = at(a.now), a.occurred
		if !a.occurred.Has {
			o.Dates[6] = o.Dates[0]
		}
	} else {
		o.Dates[4] = at(a.now)
	}
	o.Reason, o.Message, o.Dates[9] = a.reason, a.message, at(a.now)
	return o, fine
}

func mustDestroy(o api.Object, a asked) (api.Object, int) {
	if o.Archived {
		return api.Object{}, archived
	}
	switch o.State {
	case 1, 3:
		o.State = 5
	case 4:
		o.State = 6
	default:
		return api.Object{}, illegal
	}
	o.Material, o.Dates[5], o.Dates[9] = nil, at(a.now), at(a.now)
	return o, fine
}

func mustArchive(o api.Object, a asked) (api.Object, int) {
	if o.Archived {
		return api.Object{}, archived
	}
	o.Archived, o.Dates[8], o.Dates[9] = true, at(a.now), at(a.now)
	return o, fine
}

func mustRecover(o api.Object, a asked) (api.Object, int) {
	if !o.Archived {
		return api.Object{}, illegal
	}
	o.Archived, o.Dates[9] = false, at(a.now)
	return o, fine
}

// tidy answers the object with nil in the place of each empty list.
func tidy(o api.Object) api.Object {
	if len(o.Material) == 0 {
		o.Material = nil
	}
	if len(o.Names) == 0 {
		o.Names = nil
	}
	if len(o.Links) == 0 {
		o.Links = nil
	}
	if len(o.Custom) == 0 {
		o.Custom = nil
	}
	return o
}

// alike tells whether all fields are the same; nil and an empty list are.
func alike(a, b api.Object) bool { return reflect.DeepEqual(tidy(a), tidy(b)) }

// isNone tells whether it is the zero object, its lists nil.
func isNone(o api.Object) bool { return reflect.DeepEqual(o, api.Object{}) }

// checkTime holds what Move, Due and Next answer against what is worked out
// here.
func checkTime(t *testing.T, what string, o api.Object, now int64) {
	t.Helper()
	want, through := moved(o, now)
	got := life.Move(o, now)
	if !alike(got, want) {
		t.Errorf("11.1: %s, at %d: Move: %+v, want %+v", what, now, got, want)
	}
	if again := life.Move(got, now); !alike(again, want) {
		t.Errorf("11.1: %s, at %d: Move a second time: %+v", what, now, again)
	}
	due := life.Due(o, now)
	if !slices.Equal(due, through) {
		t.Errorf("11.1: %s, at %d: Due: %v, want %v", what, now, due, through)
	}
	checkPath(t, what, o.State, due, got.State)
	checkNext(t, what, o)
}

// checkPath holds that the states are edges one behind the other.
func checkPath(t *testing.T, what string, from int, through []int, to int) {
	t.Helper()
	for _, state := range through {
		if !isEdge(from, state) || !life.Edge(from, state) {
			t.Errorf("11.3: %s: from %d to %d in %v, which is no edge", what, from, state, through)
		}
		from = state
	}
	if from != to {
		t.Errorf("11.3: %s: Due ends in %d, and Move in %d", what, from, to)
	}
}

func checkNext(t *testing.T, what string, o api.Object) {
	t.Helper()
	n, ok := life.Next(o)
	if want, has := following(o); n != want || ok != has {
		t.Errorf("11.1: %s: Next: %d, %v, want %d, %v", what, n, ok, want, has)
	}
	if !ok {
		if n != 0 {
			t.Errorf("R3: %s: Next: beside false %d", what, n)
		}
		n = math.MaxInt64
	} else if alike(life.Move(o, n), o) {
		t.Errorf("11.1: %s: Move does nothing at %d, which Next tells", what, n)
	} else if n--; n == math.MaxInt64 {
		return
	}
	if !alike(life.Move(o, n), o) {
		t.Errorf("11.1: %s: Move does something at %d", what, n)
	}
}

// checkCall holds what one of the five answers against what is worked out
// here; it answers the reason.
func checkCall(t *testing.T, what string, c call, o api.Object, a asked) int {
	t.Helper()
	want, reason := c.must(o, a)
	got, r := c.ask(o, a)
	if r != reason {
		t.Errorf("11.2: %s: %s: reason %d, not %d: %+v, %+v", what, c.name, r, reason, o, a)
		return r
	}
	if r != fine {
		if !isNone(got) {
			t.Errorf("R3: %s: %s: beside reason %d %+v", what, c.name, r, got)
		}
		return r
	}
	if !alike(got, want) {
		t.Errorf("11.2: %s: %s: %+v, want %+v", what, c.name, got, want)
	}
	if got.State != o.State && !(isEdge(o.State, got.State) && life.Edge(o.State, got.State)) {
		t.Errorf("11.3: %s: %s: from %d to %d, which is no edge", what, c.name, o.State, got.State)
	}
	return r
}
