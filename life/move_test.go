package life_test

import (
	"math"
	"slices"
	"strconv"
	"testing"

	"locksmith/api"
	"locksmith/life"
)

// around are dates about a time: none, an At that counts for nothing, and
// below, at and above it.
func around(now int64) []api.Date {
	all := []api.Date{none, {At: now}, {At: now - 1}, {At: now + 1}}
	for _, n := range []int64{now - 1, now, now + 1, now - 3, now + 3, -now, 0, math.MinInt64, math.MaxInt64} {
		all = append(all, at(n))
	}
	return all
}

// times are those at which the calls are asked.
func times() []int64 {
	return []int64{0, 1, -1, 100, -100, api.MaxTime, -1 << 40, 1 << 32, math.MaxInt64, math.MinInt64}
}

func TestMoveOfEveryState(t *testing.T) {
	for _, state := range states() {
		for _, now := range times() {
			for _, activation := range around(now) {
				for _, deactivation := range around(now) {
					for _, o := range []api.Object{plain(state), full(state)} {
						o.Dates[api.Activation], o.Dates[api.Deactivation] = activation, deactivation
						checkTime(t, "state "+strconv.Itoa(state), o, now)
						o.Archived = true
						checkTime(t, "archived, state "+strconv.Itoa(state), o, now)
					}
				}
			}
			if t.Failed() {
				return
			}
		}
	}
}

// timed is an object with these two dates.
func timed(state int, activation, deactivation api.Date) api.Object {
	o := full(state)
	o.Dates[api.Activation], o.Dates[api.Deactivation] = activation, deactivation
	return o
}

func TestMoveByHand(t *testing.T) {
	for _, c := range []struct {
		what  string
		o     api.Object
		now   int64
		state int
		due   []int
	}{
		{"the chapter's example", timed(api.PreActive, at(5), at(7)), 9, api.Deactivated, []int{2, 3}},
		{"one below its Activation", timed(api.PreActive, at(5), at(7)), 4, api.PreActive, nil},
		{"at its Activation", timed(api.PreActive, at(5), at(7)), 5, api.Active, []int{2}},
		{"one below its Deactivation", timed(api.PreActive, at(5), at(7)), 6, api.Active, []int{2}},
		{"at its Deactivation", timed(api.PreActive, at(5), at(7)), 7, api.Deactivated, []int{2, 3}},
		{"both at once", timed(api.PreActive, at(5), at(5)), 5, api.Deactivated, []int{2, 3}},
		{"Deactivation ahead, and not yet active", timed(api.PreActive, at(5), at(3)), 4, api.PreActive, nil},
		{"Deactivation ahead", timed(api.PreActive, at(5), at(3)), 5, api.Deactivated, []int{2, 3}},
		{"no Activation", timed(api.PreActive, none, at(3)), 5, api.PreActive, nil},
		{"an Activation that it has not", timed(api.PreActive, api.Date{At: 1}, at(3)), 5, api.PreActive, nil},
		{"no Deactivation", timed(api.PreActive, at(5), none), 1 << 40, api.Active, []int{2}},
		{"a Deactivation that it has not", timed(api.PreActive, at(5), api.Date{At: 3}), 1 << 40, api.Active, []int{2}},
		{"Active, at its Deactivation", timed(api.Active, none, at(7)), 7, api.Deactivated, []int{3}},
		{"Active, one below it", timed(api.Active, none, at(7)), 6, api.Active, nil},
		{"Active, ahead of its Activation", timed(api.Active, at(9), at(7)), 7, api.Deactivated, []int{3}},
		{"Active, without dates", timed(api.Active, none, none), 1 << 40, api.Active, nil},
		{"below 0", timed(api.PreActive, at(-7), at(-5)), -6, api.Active, []int{2}},
		{"below 0, both", timed(api.PreActive, at(-7), at(-5)), -5, api.Deactivated, []int{2, 3}},
		{"at 0", timed(api.PreActive, at(0), at(1)), 0, api.Active, []int{2}},
		{"Deactivated", timed(api.Deactivated, at(1), at(2)), 9, api.Deactivated, nil},
		{"Compromised", timed(api.Compromised, at(1), at(2)), 9, api.Compromised, nil},
		{"Destroyed", timed(api.Destroyed, at(1), at(2)), 9, api.Destroyed, nil},
		{"Both", timed(api.Both, at(1), at(2)), 9, api.Both, nil},
		{"a state that is none", timed(0, at(1), at(2)), 9, 0, nil},
	} {
		x := life.Move(c.o, c.now)
		if x.State != c.state {
			t.Errorf("11.1: %s: Move: state %d, not %d", c.what, x.State, c.state)
		}
		if due := life.Due(c.o, c.now); !slices.Equal(due, c.due) {
			t.Errorf("11.1: %s: Due: %v, not %v", c.what, due, c.due)
		}
		change := c.o.Dates[api.LastChange]
		if c.due != nil {
			change = at(c.now)
		}
		if x.Dates[api.LastChange] != change {
			t.Errorf("11.1: %s: LastChange is %+v, not %+v", c.what, x.Dates[api.LastChange], change)
		}
		x.State, x.Dates[api.LastChange] = c.o.State, c.o.Dates[api.LastChange]
		if !alike(x, c.o) {
			t.Errorf("11.1: %s: Move changes something else: %+v", c.what, x)
		}
		checkTime(t, c.what, c.o, c.now)
	}
}

// A LastChange above now is now, too, where the state became another one.
func TestMoveBackInTime(t *testing.T) {
	o := timed(api.PreActive, at(5), none)
	o.Dates[api.LastChange] = at(1 << 39)
	if x := life.Move(o, 6); x.Dates[api.LastChange] != at(6) {
		t.Errorf("11.1: LastChange is %+v", x.Dates[api.LastChange])
	}
	o.Dates[api.LastChange] = api.Date{At: 44}
	if x := life.Move(o, 4); x.Dates[api.LastChange] != o.Dates[api.LastChange] {
		t.Errorf("11.1: LastChange is %+v, and nothing was moved", x.Dates[api.LastChange])
	}
}

func TestNextByHand(t *testing.T) {
	for _, c := range []struct {
		what string
		o    api.Object
		n    int64
		ok   bool
	}{
		{"PreActive, both", timed(api.PreActive, at(5), at(7)), 5, true},
		{"PreActive, Deactivation ahead", timed(api.PreActive, at(5), at(3)), 5, true},
		{"PreActive, Activation alone", timed(api.PreActive, at(5), none), 5, true},
		{"PreActive, Deactivation alone", timed(api.PreActive, none, at(3)), 0, false},
		{"PreActive, none", timed(api.PreActive, none, none), 0, false},
		{"PreActive, an At alone", timed(api.PreActive, api.Date{At: 5}, at(7)), 0, false},
		{"PreActive, below 0", timed(api.PreActive, at(-5), at(-7)), -5, true},
		{"PreActive, at 0", timed(api.PreActive, at(0), at(1)), 0, true},
		{"Active, both", timed(api.Active, at(5), at(7)), 7, true},
		{"Active, Deactivation ahead", timed(api.Active, at(5), at(3)), 3, true},
		{"Active, Activation alone", timed(api.Active, at(5), none), 0, false},
		{"Active, Deactivation alone", timed(api.Active, none, at(-3)), -3, true},
		{"Active, an At alone", timed(api.Active, at(5), api.Date{At: 7}), 0, false},
		{"Active, none", timed(api.Active, none, none), 0, false},
		{"Deactivated, both", timed(api.Deactivated, at(5), at(7)), 0, false},
		{"Compromised, both", timed(api.Compromised, at(5), at(7)), 0, false},
		{"Destroyed, both", timed(api.Destroyed, at(5), at(7)), 0, false},
		{"Both, both", timed(api.Both, at(5), at(7)), 0, false},
		{"a state that is none, both", timed(0, at(5), at(7)), 0, false},
		{"the least time", timed(api.PreActive, at(math.MinInt64), none), math.MinInt64, true},
		{"the greatest time", timed(api.Active, none, at(math.MaxInt64)), math.MaxInt64, true},
	} {
		if n, ok := life.Next(c.o); n != c.n || ok != c.ok {
			t.Errorf("11.1: %s: Next: %d, %v, not %d, %v", c.what, n, ok, c.n, c.ok)
		}
		checkNext(t, c.what, c.o)
	}
}

// Who goes from Next to Next comes through what Due tells, and to where Move
// leads at once.
func TestFromNextToNext(t *testing.T) {
	for _, o := range []api.Object{timed(api.PreActive, at(5), at(7)), timed(api.PreActive, at(-5), at(70)), timed(api.Active, none, at(1)), timed(api.PreActive, at(9), none)} {
		x, through := o, []int(nil)
		for n, ok := life.Next(x); ok; n, ok = life.Next(x) {
			through = append(through, life.Due(x, n)...)
			x = life.Move(x, n)
		}
		last := life.Move(o, 99)
		last.Dates[api.LastChange] = x.Dates[api.LastChange]
		if !alike(x, last) || !slices.Equal(through, life.Due(o, 99)) {
			t.Errorf("11.1: from Next to Next through %v to %+v, at once through %v to %+v", through, x, life.Due(o, 99), last)
		}
	}
}
