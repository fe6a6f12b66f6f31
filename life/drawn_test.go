package life_test

import (
	"math"
	"testing"

	"locksmith/api"
	"locksmith/life"
	"locksmith/object"
)

// pick draws one of these.
func pick[T any](draw func(int) int, all ...T) T { return all[draw(len(all))] }

// drawDate draws a date near 0, often.
func drawDate(draw func(int) int) api.Date {
	switch draw(12) {
	case 0:
		return api.Date{At: int64(draw(9))}
	case 1, 2, 3:
		return none
	case 4:
		return at(pick[int64](draw, -1<<40, api.MaxTime, math.MaxInt64, math.MinInt64, 1<<32))
	}
	return at(int64(draw(21)) - 10)
}

// drawObject draws one with whatever may stand in an object, and more; its
// state is one, most times.
func drawObject(draw func(int) int) api.Object {
	o := api.Object{
		Id: letters(draw(4)), Type: draw(9), Algorithm: draw(5), Length: draw(300), Mask: draw(1 << 21),
		State: 1 + draw(6), Reason: draw(9), Message: letters(draw(130)), Archived: draw(3) == 0,
		Limits: api.Limits{Has: draw(2) == 0, Total: int64(draw(99)), Count: int64(draw(99)), Unit: draw(4)},
	}
	if draw(10) == 0 {
		o.State = pick(draw, states()...)
	}
	for i := range o.Dates {
		o.Dates[i] = drawDate(draw)
	}
	for range draw(4) {
		o.Material = append(o.Material, byte(draw(256)))
		o.Names = append(o.Names, letters(draw(9)))
		o.Links = append(o.Links, api.Link{Type: draw(200), Id: letters(draw(9))})
		o.Custom = append(o.Custom, api.Custom{Name: letters(draw(9)), Text: letters(draw(9))})
	}
	return o
}

func drawAsked(draw func(int) int) asked {
	a := asked{1 + draw(7), letters(draw(9)), drawDate(draw), int64(draw(21)) - 10}
	if draw(3) > 0 {
		a.occurred = at(a.now - int64(draw(3)))
	}
	switch draw(9) {
	case 0:
		a.reason = pick(draw, reasons()...)
	case 1:
		a.message = pick(draw, messages()...)
	case 2:
		a.now = pick(draw, times()...)
	}
	return a
}

func TestDrawn(t *testing.T) {
	draw := drawer(112)
	counts := map[int]int{}
	for range 60000 {
		o, a := drawObject(draw), drawAsked(draw)
		checkTime(t, "drawn", o, a.now)
		for _, c := range five() {
			counts[checkCall(t, "drawn", c, o, a)]++
		}
		if t.Failed() {
			return
		}
	}
	for _, reason := range []int{fine, field, illegal, archived} {
		if counts[reason] < 1000 {
			t.Errorf("reason %d came %d times", reason, counts[reason])
		}
	}
}

// A run of calls and of times, with clocks that go back, too: the state goes
// along edges alone, and what is right stays right.
func TestDrawnLives(t *testing.T) {
	draw := drawer(113)
	ends := map[int]int{}
	for range 3000 {
		o, now := drawRight(draw), int64(0)
		for range 12 {
			now += int64(draw(8)) - 2
			o = step(t, draw, o, now)
			if t.Failed() {
				return
			}
		}
		ends[o.State]++
	}
	for state := api.Active; state <= api.Both; state++ {
		if ends[state] < 20 {
			t.Errorf("%d lives ended in state %d", ends[state], state)
		}
	}
}

// drawRight draws an object that may be kept, at its beginning.
func drawRight(draw func(int) int) api.Object {
	o := full(api.PreActive)
	o.Reason, o.Message = 0, ""
	for i := range o.Dates {
		o.Dates[i] = none
		if draw(2) == 0 {
			o.Dates[i] = at(int64(draw(90)) - 10)
		}
	}
	return o
}

// step is what a while and one call do to the object.
func step(t *testing.T, draw func(int) int, o api.Object, now int64) api.Object {
	t.Helper()
	checkTime(t, "a life", o, now)
	o = life.Move(o, now)
	a := drawAsked(draw)
	a.now = now
	// The chapter sets no lower bound to this time, but what is kept has one.
	a.occurred.At = max(a.occurred.At, -1<<40)
	if draw(2) == 0 {
		a.reason = 2
	}
	c := pick(draw, five()...)
	if draw(2) == 0 {
		return o
	}
	if checkCall(t, "a life", c, o, a) == fine {
		o, _ = c.ask(o, a)
	}
	if !object.Right(o) {
		t.Errorf("11.2: %s makes what is not right: %+v", c.name, o)
	}
	return o
}

// Time that goes one by one does what a leap does, but for when.
func TestDrawnTimeOneByOne(t *testing.T) {
	draw := drawer(114)
	for range 3000 {
		o := drawRight(draw)
		x := o
		var through []int
		for now := int64(-12); now < 90; now++ {
			n, ok := life.Next(x)
			due := life.Due(x, now)
			if (ok && n <= now) != (len(due) > 0) {
				t.Fatalf("11.1: Next: %d, %v, and at %d there is %v due", n, ok, now, due)
			}
			through = append(through, due...)
			x = life.Move(x, now)
		}
		leap := life.Move(o, 90)
		checkPath(t, "one by one", o.State, through, leap.State)
		leap.Dates[api.LastChange] = x.Dates[api.LastChange]
		if !alike(x, leap) {
			t.Fatalf("11.1: one by one: %+v, at once %+v", x, leap)
		}
	}
}

func FuzzCalls(f *testing.F) {
	f.Add(1, int64(5), int64(7), 2, "m", true, int64(3), int64(9), false)
	f.Add(4, int64(-5), int64(7), 8, "\xff", false, int64(3), int64(9), true)
	f.Fuzz(func(t *testing.T, state int, one, two int64, reason int, message string, has bool, occurred, now int64, shut bool) {
		o := timed(state, at(one), at(two))
		o.Archived = shut
		checkTime(t, "fuzzed", o, now)
		for _, c := range five() {
			checkCall(t, "fuzzed", c, o, asked{reason, message, api.Date{Has: has, At: occurred}, now})
		}
	})
}
