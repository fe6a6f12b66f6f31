package life_test

import (
	"math"
	"strconv"
	"testing"

	"locksmith/api"
	"locksmith/life"
)

// revoked is what Revoke is asked for at 9, if nothing else is said.
func revoked(reason int) asked { return asked{reason, "lost", at(4), 9} }

func reasons() []int {
	return []int{1, 2, 3, 4, 5, 6, 7, 0, 8, -1, -2, 9, 257, 258, 1<<32 + 2, math.MaxInt, math.MinInt}
}

// messages are right ones, and then wrong ones.
func messages() []string {
	return []string{
		"", "a", "grün\x00", letters(119), letters(120), letters(118) + "é", "\ufffd",
		letters(121), letters(119) + "é", letters(3000), "\xff", "a\x80", "\xed\xa0\x80", letters(119) + "\xc2",
	}
}

func TestCallsOfEveryObject(t *testing.T) {
	for _, state := range states() {
		for _, now := range times() {
			for _, o := range []api.Object{plain(state), full(state)} {
				what := "state " + strconv.Itoa(state)
				for _, c := range five() {
					checkCall(t, what, c, o, asked{2, "m", none, now})
				}
				o.Archived = true
				for _, c := range five() {
					checkCall(t, what+", archived", c, o, asked{1, "m", none, now})
				}
			}
		}
	}
}

// Each pair of a reason, a message and a time of Revoke, of each state.
func TestRevokeOfEveryObject(t *testing.T) {
	c := called("Revoke")
	for _, state := range states() {
		for _, shut := range []bool{false, true} {
			o := full(state)
			o.Archived = shut
			for _, reason := range reasons() {
				for _, message := range messages() {
					for _, now := range []int64{0, 50, -50, api.MaxTime} {
						for _, occurred := range around(now) {
							checkCall(t, "drawn up", c, o, asked{reason, message, occurred, now})
						}
					}
				}
			}
		}
		if t.Failed() {
			return
		}
	}
}

// outcome is what a call must come to: a state, or a reason why not.
type outcome struct {
	state  int
	reason int
}

func TestStatesByHand(t *testing.T) {
	no := outcome{0, api.Illegal}
	for _, c := range []struct {
		name string
		ask  asked
		want [6]outcome // of PreActive to Both
	}{
		{"Activate", revoked(1), [6]outcome{{api.Active, 0}, no, no, no, no, no}},
		{"Revoke", revoked(1), [6]outcome{no, {api.Deactivated, 0}, no, no, no, no}},
		{"Revoke", revoked(3), [6]outcome{no, {api.Deactivated, 0}, no, no, no, no}},
		{"Revoke", revoked(7), [6]outcome{no, {api.Deactivated, 0}, no, no, no, no}},
		{"Revoke", revoked(2), [6]outcome{{api.Compromised, 0}, {api.Compromised, 0}, {api.Compromised, 0}, no, {api.Both, 0}, no}},
		{"Destroy", revoked(1), [6]outcome{{api.Destroyed, 0}, no, {api.Destroyed, 0}, {api.Both, 0}, no, no}},
		{"Archive", revoked(1), [6]outcome{{1, 0}, {2, 0}, {3, 0}, {4, 0}, {5, 0}, {6, 0}}},
		{"Recover", revoked(1), [6]outcome{no, no, no, no, no, no}},
	} {
		for i, want := range c.want {
			x, reason := called(c.name).ask(full(i+1), c.ask)
			if x.State != want.state || reason != want.reason {
				t.Errorf("11.2: %s, reason %d, of state %d: state %d, reason %d, not %+v", c.name, c.ask.reason, i+1, x.State, reason, want)
			}
		}
	}
}

// Of an archived one all but Recover is refused, whatever its state.
func TestArchivedByHand(t *testing.T) {
	for state := api.PreActive; state <= api.Both; state++ {
		o := full(state)
		o.Archived = true
		for _, c := range five() {
			x, reason := c.ask(o, revoked(2))
			if c.name == "Recover" {
				if reason != api.Fine || x.State != state || x.Archived {
					t.Errorf("11.2: Recover of state %d: %d, %+v", state, reason, x)
				}
			} else if reason != api.Archived || !isNone(x) {
				t.Errorf("11.2: %s of an archived one of state %d: %d, %+v", c.name, state, reason, x)
			}
		}
	}
}

// Where two or three reasons would do, the first that the chapter names.
func TestOrderOfReasons(t *testing.T) {
	wrong := []asked{
		{0, "", none, 9}, {8, "", none, 9}, {-1, "", none, 9}, {2, letters(121), none, 9}, {2, "\xff", none, 9},
		{2, "", at(10), 9}, {2, "", api.Date{At: 1}, 9}, {0, "\xff", at(10), 9},
	}
	for i, a := range wrong {
		for state := -1; state <= 7; state++ {
			o := full(state)
			for _, o.Archived = range []bool{false, true} {
				if _, reason := life.Revoke(o, a.reason, a.message, a.occurred, a.now); reason != api.Field {
					t.Errorf("11.2: Revoke %d of state %d, archived %v: %d, not Field", i, state, o.Archived, reason)
				}
			}
		}
	}
	o := full(api.Both)
	o.Archived = true
	for _, c := range five()[:3] {
		if _, reason := c.ask(o, revoked(2)); reason != api.Archived {
			t.Errorf("11.2: %s: %d, not Archived", c.name, reason)
		}
	}
}

// Where something is wrong with a revocation it is so alone; at the edges
// nothing is.
func TestFieldByHand(t *testing.T) {
	for _, c := range []struct {
		what string
		ask  asked
		want int
	}{
		{"reason 0", asked{0, "", none, 9}, api.Field},
		{"reason 1", asked{1, "", none, 9}, api.Fine},
		{"reason 2", asked{2, "", none, 9}, api.Fine},
		{"reason 7", asked{7, "", none, 9}, api.Fine},
		{"reason 8", asked{8, "", none, 9}, api.Field},
		{"reason -1", asked{-1, "", none, 9}, api.Field},
		{"no message", asked{1, "", none, 9}, api.Fine},
		{"a message of MaxText bytes", asked{1, letters(api.MaxText), none, 9}, api.Fine},
		{"one more byte", asked{1, letters(api.MaxText + 1), none, 9}, api.Field},
		{"MaxText bytes, fewer signs", asked{1, letters(api.MaxText-2) + "é", none, 9}, api.Fine},
		{"MaxText signs, more bytes", asked{1, letters(api.MaxText-1) + "é", none, 9}, api.Field},
		{"not UTF-8", asked{1, "a\xff", none, 9}, api.Field},
		{"occurred one below now", asked{1, "", at(8), 9}, api.Fine},
		{"occurred now", asked{1, "", at(9), 9}, api.Fine},
		{"occurred one above now", asked{1, "", at(10), 9}, api.Field},
		{"occurred one above now, of a compromise", asked{2, "", at(10), 9}, api.Field},
		{"occurred below 0", asked{2, "", at(-1 << 40), 9}, api.Fine},
		{"an At without Has", asked{1, "", api.Date{At: 1}, 9}, api.Field},
		{"an At below 0 without Has", asked{2, "", api.Date{At: -1}, 9}, api.Field},
		{"an At of now without Has", asked{2, "", api.Date{At: 9}, 9}, api.Field},
		{"none, now below 0", asked{2, "", none, -9}, api.Fine},
		{"occurred at 0, now below 0", asked{2, "", at(0), -9}, api.Field},
	} {
		if _, reason := life.Revoke(full(api.Active), c.ask.reason, c.ask.message, c.ask.occurred, c.ask.now); reason != c.want {
			t.Errorf("11.2: %s: %d, not %d", c.what, reason, c.want)
		}
		checkCall(t, c.what, called("Revoke"), full(api.Active), c.ask)
	}
}

// left is a call, and what it leaves: what else would be is told by turn.
type left struct {
	what string
	name string
	o    api.Object
	ask  asked
	turn func(o *api.Object)
}

func checkLeft(t *testing.T, all []left) {
	t.Helper()
	for _, l := range all {
		want := l.o
		l.turn(&want)
		want.Dates[api.LastChange] = at(l.ask.now)
		got, reason := called(l.name).ask(l.o, l.ask)
		if reason != api.Fine || !alike(got, want) {
			t.Errorf("11.2: %s: reason %d, %+v, want %+v", l.what, reason, got, want)
		}
	}
}

// without is an object that has no such date.
func without(state int, dates ...int) api.Object {
	o := full(state)
	for _, d := range dates {
		o.Dates[d] = none
	}
	return o
}

func TestRevokeLeaves(t *testing.T) {
	compromised := func(state int, occurred api.Date, message string) func(o *api.Object) {
		return func(o *api.Object) {
			o.State, o.Reason, o.Message = state, 2, message
			o.Dates[api.CompromiseDate], o.Dates[api.Occurrence] = at(9), occurred
		}
	}
	checkLeft(t, []left{
		{"PreActive, compromised", "Revoke", full(api.PreActive), asked{2, "m", at(4), 9}, compromised(api.Compromised, at(4), "m")},
		{"Active, compromised", "Revoke", full(api.Active), asked{2, "", at(9), 9}, compromised(api.Compromised, at(9), "")},
		{"Deactivated, compromised", "Revoke", full(api.Deactivated), asked{2, "m", at(-4), 9}, compromised(api.Compromised, at(-4), "m")},
		{"Destroyed, compromised", "Revoke", full(api.Destroyed), asked{2, "m", at(4), 9}, compromised(api.Both, at(4), "m")},
		{"no time", "Revoke", full(api.Active), asked{2, "m", none, 9}, compromised(api.Compromised, at(1000), "m")},
		{"no time, Destroyed", "Revoke", full(api.Destroyed), asked{2, "m", none, 9}, compromised(api.Both, at(1000), "m")},
		{"no time and no Initial", "Revoke", without(api.Active, api.Initial), asked{2, "m", none, 9}, compromised(api.Compromised, none, "m")},
		{"a time and no Initial", "Revoke", without(api.Active, api.Initial), asked{2, "m", at(0), 9}, compromised(api.Compromised, at(0), "m")},
		{"no dates", "Revoke", without(api.Active, 0, 1, 2, 3, 4, 5, 6, 7, 8, 9), asked{2, "m", none, 9}, compromised(api.Compromised, none, "m")},
	})
	for _, reason := range []int{1, 3, 4, 5, 6, 7} {
		checkLeft(t, []left{{"Active, not compromised", "Revoke", full(api.Active), asked{reason, "m", at(4), 9}, func(o *api.Object) {
			o.State, o.Reason, o.Message = api.Deactivated, reason, "m"
			o.Dates[api.Deactivation] = at(9)
		}}, {"Active, no message", "Revoke", without(api.Active, api.Deactivation, api.LastChange), asked{reason, "", none, -9}, func(o *api.Object) {
			o.State, o.Reason, o.Message = api.Deactivated, reason, ""
			o.Dates[api.Deactivation] = at(-9)
		}}})
	}
}

func TestCallsLeave(t *testing.T) {
	shut := func(o api.Object) api.Object {
		o.Archived = true
		return o
	}
	activated := func(o *api.Object) { o.State, o.Dates[api.Activation] = api.Active, at(9) }
	destroyed := func(state int) func(o *api.Object) {
		return func(o *api.Object) { o.State, o.Material, o.Dates[api.DestroyDate] = state, nil, at(9) }
	}
	kept := func(o *api.Object) { o.Archived, o.Dates[api.ArchiveDate] = true, at(9) }
	back := func(o *api.Object) { o.Archived = false }
	nine := asked{now: 9}
	checkLeft(t, []left{
		{"Activate", "Activate", full(api.PreActive), nine, activated},
		{"Activate, no dates", "Activate", without(api.PreActive, api.Activation, api.LastChange), nine, activated},
		{"Destroy of PreActive", "Destroy", full(api.PreActive), nine, destroyed(api.Destroyed)},
		{"Destroy of Deactivated", "Destroy", full(api.Deactivated), nine, destroyed(api.Destroyed)},
		{"Destroy of Compromised", "Destroy", full(api.Compromised), nine, destroyed(api.Both)},
		{"Destroy, no dates", "Destroy", without(api.PreActive, api.DestroyDate, api.LastChange), nine, destroyed(api.Destroyed)},
	})
	for _, state := range states() {
		checkLeft(t, []left{
			{"Archive", "Archive", full(state), nine, kept},
			{"Archive, no dates", "Archive", without(state, api.ArchiveDate, api.LastChange), nine, kept},
			{"Recover", "Recover", shut(full(state)), nine, back},
			{"Recover, no dates", "Recover", shut(without(state, api.ArchiveDate, api.LastChange)), nine, back},
		})
	}
}

// What was archived and brought back has its ArchiveDate, until it is archived
// anew.
func TestArchiveAndRecover(t *testing.T) {
	x, _ := life.Archive(full(api.Active), 9)
	x, _ = life.Recover(x, 12)
	if x.Archived || x.Dates[api.ArchiveDate] != at(9) || x.Dates[api.LastChange] != at(12) {
		t.Errorf("11.2: %+v", x)
	}
	if y, reason := life.Recover(x, 13); reason != api.Illegal || !isNone(y) {
		t.Errorf("11.2: Recover a second time: %d, %+v", reason, y)
	}
	x, _ = life.Archive(x, 15)
	if !x.Archived || x.Dates[api.ArchiveDate] != at(15) || x.Dates[api.LastChange] != at(15) {
		t.Errorf("11.2: %+v", x)
	}
	if y, reason := life.Archive(x, 16); reason != api.Archived || !isNone(y) {
		t.Errorf("11.2: Archive a second time: %d, %+v", reason, y)
	}
}

// The calls take the object as it is: what time would do to it is Move's alone.
func TestCallsDoNotMove(t *testing.T) {
	for _, c := range five() {
		for _, state := range []int{api.PreActive, api.Active} {
			for _, shut := range []bool{false, true} {
				o := timed(state, at(1), at(2))
				o.Archived = shut
				checkCall(t, "its dates have come", c, o, revoked(2))
				checkCall(t, "its dates have come", c, o, revoked(1))
			}
		}
	}
}
