package allow_test

import (
	"math"
	"testing"

	"locksmith/allow"
	"locksmith/api"
	"locksmith/life"
	"locksmith/object"
)

// pick draws one of these.
func pick[T any](draw func(int) int, all ...T) T { return all[draw(len(all))] }

// drawDate draws a date near 0, often.
func drawDate(draw func(int) int) api.Date {
	switch draw(12) {
	case 0:
		return bare(int64(draw(9)))
	case 1, 2, 3:
		return none
	case 4:
		return at(pick[int64](draw, -1<<40, api.MaxTime, math.MaxInt64, math.MinInt64, 1<<32))
	}
	return at(int64(draw(21)) - 10)
}

// drawObject draws one with whatever may stand in an object, and more; it is a
// key, most times.
func drawObject(draw func(int) int) api.Object {
	o := api.Object{
		Id: letters(draw(4)), Type: api.Symmetric, Algorithm: 3, Length: draw(300), Mask: draw(1 << 21),
		State: pick(draw, 1, 2, 2, 2, 3, 4, 5, 6), Reason: draw(9), Message: letters(draw(130)), Archived: draw(6) == 0,
		Material: make([]byte, pick(draw, 16, 24, 32)),
		Limits:   api.Limits{Has: draw(3) > 0, Total: int64(draw(99)), Count: int64(draw(30)), Unit: pick(draw, 1, 1, 2, 2, draw(5))},
	}
	for i := range o.Dates {
		o.Dates[i] = drawDate(draw)
	}
	for range draw(4) {
		o.Names = append(o.Names, letters(draw(9)))
		o.Links = append(o.Links, api.Link{Type: draw(200), Id: letters(draw(9))})
		o.Custom = append(o.Custom, api.Custom{Name: letters(draw(9)), Text: letters(draw(9))})
	}
	switch draw(20) {
	case 0:
		o.State = pick(draw, states()...)
	case 1:
		o.Type = draw(9)
	case 2:
		o.Algorithm = draw(6)
	case 3:
		o.Material = make([]byte, draw(50))
	case 4:
		o.Limits.Count = pick[int64](draw, -1, 1<<40, math.MaxInt64, math.MinInt64)
	}
	return o
}

// asked is what the calls are asked for beside the object.
type asked struct {
	op, size int
	count    int64
	now      int64
}

func drawAsked(draw func(int) int) asked {
	a := asked{pick(draw, four()...), draw(35) - 3, int64(draw(35) - 3), int64(draw(21)) - 10}
	switch draw(12) {
	case 0:
		a.op = draw(50)
	case 1:
		a.now = pick(draw, times()...)
	case 2:
		a.size = pick(draw, math.MaxInt, math.MinInt, 1<<40, 1<<32+1)
	case 3:
		a.count = pick[int64](draw, math.MaxInt64, math.MinInt64, 1<<40, 1<<40+1, 1<<32+1)
	}
	return a
}

func TestDrawn(t *testing.T) {
	draw := drawer(123)
	uses, spends, allocations := map[int]int{}, map[int]int{}, map[int]int{}
	for range 150000 {
		o, a := drawObject(draw), drawAsked(draw)
		uses[checkUse(t, "drawn", o, a.op, a.now)]++
		_, reason := checkSpend(t, "drawn", o, a.op, a.size, a.now)
		spends[reason]++
		_, reason = checkAllocate(t, "drawn", o, a.count, a.now)
		allocations[reason]++
		if t.Failed() {
			return
		}
	}
	for _, reason := range []int{fine, unsupported, archived, denied, illegal} {
		if uses[reason] < 1000 || spends[reason] < 1000 {
			t.Errorf("reason %d came %d, %d times", reason, uses[reason], spends[reason])
		}
	}
	for _, reason := range []int{fine, archived, illegal, field, denied} {
		if allocations[reason] < 1000 {
			t.Errorf("reason %d came %d times of Allocate", reason, allocations[reason])
		}
	}
}

// A key's life: it is moved by time, and used, and what is right stays right;
// what is used is as its state, its dates and its limits let it.
func TestDrawnLives(t *testing.T) {
	draw := drawer(124)
	used := map[int]int{}
	for range 4000 {
		o, now := drawKey(draw), int64(0)
		had := o.Limits.Count
		for range 20 {
			now += int64(draw(6)) - 1
			o = life.Move(o, now)
			op, size := four()[draw(4)], draw(8)
			x, reason := checkSpend(t, "a life", o, op, size, now)
			if draw(4) == 0 {
				x, reason = checkAllocate(t, "a life", o, int64(size), now)
			} else if reason == api.Fine {
				used[o.State]++
			}
			if t.Failed() {
				return
			}
			if reason != api.Fine {
				continue
			}
			if !object.Right(x) || x.Limits.Count > o.Limits.Count || x.State != o.State {
				t.Fatalf("12.2: operation %d makes %+v of %+v", op, x, o)
			}
			o = x
		}
		if o.Limits.Count > had {
			t.Fatalf("12.2: %d are left of %d", o.Limits.Count, had)
		}
	}
	for state := api.PreActive; state <= api.Both; state++ {
		if may := state == api.Active || state == api.Deactivated || state == api.Compromised; may != (used[state] > 100) {
			t.Errorf("12.1: state %d: used %d times", state, used[state])
		}
	}
}

// drawKey draws a key that may be kept.
func drawKey(draw func(int) int) api.Object {
	o := full(pick(draw, 1, 1, 1, 2, 2, 4))
	for i := range o.Dates {
		o.Dates[i] = none
		if draw(2) == 0 {
			o.Dates[i] = at(int64(draw(50)) - 10)
		}
	}
	o.Limits = api.Limits{Has: true, Total: 60, Count: int64(draw(60)), Unit: 1 + draw(2)}
	if draw(5) == 0 {
		o.Limits = api.Limits{}
	}
	return o
}

func FuzzCalls(f *testing.F) {
	f.Add(2, 4+8, 16, int64(5), int64(9), true, int64(10), 1, 31, 4, int64(4), int64(7), false)
	f.Add(3, 128, 24, int64(-5), int64(9), true, int64(0), 2, 35, -4, int64(-4), int64(7), true)
	f.Fuzz(func(t *testing.T, state, mask, bytes int, start, stop int64, has bool, left int64, unit, op, size int, count, now int64, shut bool) {
		o := full(state)
		o.Mask, o.Material, o.Archived = mask, make([]byte, bytes&63), shut
		o.Dates[api.ProcessStart], o.Dates[api.ProtectStop] = api.Date{Has: has, At: start}, at(stop)
		o.Limits = api.Limits{Has: has, Total: 99, Count: left, Unit: unit}
		checkUse(t, "fuzzed", o, op, now)
		checkSpend(t, "fuzzed", o, op, size, now)
		checkAllocate(t, "fuzzed", o, count, now)
		if got := allow.Bit(op); got != mustBit(op) {
			t.Errorf("12.1: Bit(%d): %d", op, got)
		}
	})
}
