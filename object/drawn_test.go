package object_test

import (
	"bytes"
	"math"
	"testing"

	"locksmith/api"
	"locksmith/object"
)

func TestDrawnThereAndBack(t *testing.T) {
	draw := drawer(102)
	for range 20000 {
		o := drawObject(draw)
		checkTaken(t, "drawn", o, laid(o))
		checkSame(t, "drawn, its copy", o, object.Copy(o), true)
		if t.Failed() {
			return
		}
	}
}

// Two that are drawn are laid alike only if they are the same.
func TestDrawnPairs(t *testing.T) {
	draw := drawer(103)
	seen := map[string]api.Object{}
	for range 3000 {
		o := drawObject(draw)
		o.Names, o.Links, o.Custom, o.Material = nil, nil, nil, nil
		b, _ := object.Lay(o)
		if x, ok := seen[string(b)]; ok && !object.Same(x, o) {
			t.Errorf("10.2: %+v and %+v are laid alike", x, o)
		}
		seen[string(b)] = o
	}
}

// harm turns, cuts off, or puts in a byte or some.
func harm(draw func(int) int, b []byte) []byte {
	if len(b) == 0 {
		return []byte{byte(draw(256))}
	}
	b = bytes.Clone(b)
	at := draw(len(b))
	switch draw(6) {
	case 0:
		b[at] = byte(draw(256))
	case 1:
		b[at] ^= 1 << draw(8)
	case 2:
		b[at] += byte(draw(3)) - 1
	case 3:
		b = b[:at]
	case 4:
		b = append(b[:at:at], append(make([]byte, 1+draw(9)), b[at:]...)...)
	case 5:
		b = append(b[:at:at], b[min(len(b), at+1+draw(9)):]...)
	}
	return b
}

func TestDrawnAndHarmed(t *testing.T) {
	draw := drawer(104)
	taken, refused := 0, 0
	for range 30000 {
		b := laid(drawObject(draw))
		for range 1 + draw(2) {
			b = harm(draw, b)
		}
		if compare(t, "harmed", b) {
			taken++
		} else {
			refused++
		}
		if t.Failed() {
			return
		}
	}
	if taken < 1000 || refused < 1000 {
		t.Errorf("%d were taken, %d refused", taken, refused)
	}
}

// wild answers a number that is often at a bound of some field.
func wild(draw func(int) int) int {
	bounds := []int{0, 1, 2, 3, 4, 7, 100, 101, 110, 256, 100000, 1 << 20, 1 << 32, 1 << 40, math.MaxInt}
	n := bounds[draw(len(bounds))] + draw(3) - 1
	if draw(4) == 0 {
		return -n
	}
	return n
}

func wildText(draw func(int) int) string {
	return []string{"", "a", "b", "x-", "x-a", "\xff", "é", letters(120), letters(121), letters(3000)}[draw(10)]
}

// wildObject answers one with whatever may stand in an object.
func wildObject(draw func(int) int) api.Object {
	o := api.Object{
		Id: wildText(draw), Type: wild(draw), Algorithm: wild(draw), Length: wild(draw), Mask: wild(draw), Material: make([]byte, max(0, wild(draw)%3000)),
		State: wild(draw), Reason: wild(draw), Message: wildText(draw), Archived: draw(2) == 0,
		Limits: api.Limits{Has: draw(2) == 0, Total: int64(wild(draw)), Count: int64(wild(draw)), Unit: wild(draw)},
	}
	for i := range o.Dates {
		o.Dates[i] = api.Date{Has: draw(2) == 0, At: int64(wild(draw))}
	}
	for range draw(40) {
		o.Names = append(o.Names, wildText(draw))
		o.Links = append(o.Links, api.Link{Type: wild(draw), Id: wildText(draw)})
		o.Custom = append(o.Custom, api.Custom{Name: wildText(draw), Text: wildText(draw)})
	}
	return o
}

// R1: whatever objects are handed in; one that has one wild field alone, too.
func TestDrawnWildly(t *testing.T) {
	draw := drawer(105)
	sound := 0
	for range 300 {
		o := wildObject(draw)
		if right(o) != object.Right(o) {
			t.Fatalf("10.1: Right: %v: %+v", !right(o), o)
		}
		checkSame(t, "wild, its copy", o, object.Copy(o), true)
		for _, pick := range picks() {
			x := drawObject(draw)
			pick(&x, o)
			if !right(x) {
				checkWrong(t, "one wild field", x)
				continue
			}
			sound++
			checkTaken(t, "one wild field", x, laid(x))
		}
	}
	if sound < 300 {
		t.Errorf("%d were right", sound)
	}
}

// picks put one field of another object into one.
func picks() []func(o *api.Object, wild api.Object) {
	return []func(o *api.Object, wild api.Object){
		func(o *api.Object, wild api.Object) { o.Id = wild.Id },
		func(o *api.Object, wild api.Object) { o.Type = wild.Type },
		func(o *api.Object, wild api.Object) { o.Algorithm = wild.Algorithm },
		func(o *api.Object, wild api.Object) { o.Length = wild.Length },
		func(o *api.Object, wild api.Object) { o.Mask = wild.Mask },
		func(o *api.Object, wild api.Object) { o.Material = wild.Material },
		func(o *api.Object, wild api.Object) { o.State = wild.State },
		func(o *api.Object, wild api.Object) { o.Dates[4] = wild.Dates[4] },
		func(o *api.Object, wild api.Object) { o.Reason = wild.Reason },
		func(o *api.Object, wild api.Object) { o.Message = wild.Message },
		func(o *api.Object, wild api.Object) { o.Names = wild.Names[:min(len(wild.Names), 2)] },
		func(o *api.Object, wild api.Object) { o.Links = wild.Links[:min(len(wild.Links), 2)] },
		func(o *api.Object, wild api.Object) { o.Custom = wild.Custom[:min(len(wild.Custom), 2)] },
		func(o *api.Object, wild api.Object) { o.Limits = wild.Limits },
	}
}

// R1: whatever bytes are handed in.
func TestDrawnBytes(t *testing.T) {
	draw := drawer(106)
	for n := range 5000 {
		var b []byte
		for range n % 90 {
			b = append(b, []byte{0, 0, 0, 1, 1, 2, 7, byte(draw(256))}[draw(8)])
		}
		compare(t, "drawn bytes", b)
	}
}

func FuzzRead(f *testing.F) {
	for _, o := range bases() {
		f.Add(laid(o))
	}
	f.Fuzz(func(t *testing.T, b []byte) { compare(t, "fuzzed", b) })
}
