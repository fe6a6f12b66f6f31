package ttlv_test

import (
	"testing"

	"locksmith/ttlv"
)

func same(t *testing.T, name string, a, b item, want bool) {
	t.Helper()
	pairs := [][2]item{{a, b}, {b, a}, {of(a), of(b)}, {of(text("x"), of(a, of())), of(text("x"), of(b, of()))}}
	for k, p := range pairs {
		if ttlv.Same(p[0], p[1]) != want {
			t.Errorf("6.3: %s (%d): Same is not %v", name, k, want)
		}
	}
}

func TestSame(t *testing.T) {
	for k, a := range types() {
		for n, b := range types() {
			same(t, "each type", a, b, k == n)
		}
		same(t, "a tag", a, tagged(tag+1, a), false)
	}
	full := func() item {
		return item{Tag: 1, Type: 2, Int: 3, Data: []byte("ab"), Kids: []item{{Tag: 4}, {Tag: 5}}}
	}
	same(t, "all fields", full(), full(), true)
	for name, turn := range map[string]func(*item){
		"Tag":              func(i *item) { i.Tag = 2 },
		"Type":             func(i *item) { i.Type = 3 },
		"Int":              func(i *item) { i.Int = 4 },
		"Int's high bits":  func(i *item) { i.Int += 1 << 40 },
		"Data":             func(i *item) { i.Data[1] = 'c' },
		"Data's length":    func(i *item) { i.Data = i.Data[:1] },
		"no Data":          func(i *item) { i.Data = nil },
		"more Data":        func(i *item) { i.Data = append(i.Data, 0) },
		"a kid's Tag":      func(i *item) { i.Kids[1].Tag = 6 },
		"a kid's Type":     func(i *item) { i.Kids[1].Type = 6 },
		"a kid's Int":      func(i *item) { i.Kids[0].Int = 6 },
		"a kid's Data":     func(i *item) { i.Kids[1].Data = []byte{0} },
		"a kid's kid":      func(i *item) { i.Kids[0].Kids = []item{{}} },
		"a kid more":       func(i *item) { i.Kids = append(i.Kids, item{}) },
		"a kid less":       func(i *item) { i.Kids = i.Kids[:1] },
		"no kids":          func(i *item) { i.Kids = nil },
		"kids' order":      func(i *item) { i.Kids[0], i.Kids[1] = i.Kids[1], i.Kids[0] },
		"the tags swapped": func(i *item) { i.Tag, i.Type = i.Type, i.Tag },
	} {
		x := full()
		turn(&x)
		same(t, name, full(), x, false)
	}
	same(t, "nothing", item{}, item{}, true)
	same(t, "nil and empty", item{Tag: 1}, item{Tag: 1, Data: []byte{}, Kids: []item{}}, true)
	same(t, "spare room", item{Data: []byte("ab")}, item{Data: []byte("abc")[:2]}, true)
	same(t, "spare kids", of(some(2, text("a"))...), of(some(3, text("a"))[:2]...), true)
}

func TestSameOfDeepItems(t *testing.T) {
	for _, n := range []int{1, 11, 12, 13, 99, 100, 101, 1000, 1<<16 - 1} {
		a, b := chain(n, text("a")), chain(n, text("b"))
		if !ttlv.Same(a, chain(n, text("a"))) || ttlv.Same(a, b) || ttlv.Same(a, chain(n+1, text("a"))) {
			t.Errorf("6.3: Same of items %d deep", n)
		}
	}
}

func TestKid(t *testing.T) {
	a, b, c := tagged(0x420001, text("a")), tagged(0x420002, of(text("x"), number(ttlv.Long, 9))), tagged(0x420001, text("c"))
	i := of(a, b, c, tagged(0x540001, number(ttlv.Enum, 3)))
	for tag, want := range map[int]item{0x420001: a, 0x420002: b, 0x540001: i.Kids[3]} {
		if kid, ok := ttlv.Kid(i, tag); !ok || !alike(kid, want) {
			t.Errorf("6.3: Kid of %x: %+v %v", tag, kid, ok)
		}
	}
	// The item's own tag, and that of a kid's kid, are no kid's.
	for _, none := range []int{tag, 0, -1, 0x420003, 1 << 40, -1 << 63} {
		if kid, ok := ttlv.Kid(i, none); ok || !isNone(kid) {
			t.Errorf("6.3: Kid of %x: %+v %v", none, kid, ok)
		}
	}
	for _, i := range []item{{}, of(), text("a"), {Kids: []item{}}} {
		if kid, ok := ttlv.Kid(i, tag); ok || !isNone(kid) {
			t.Errorf("6.3: Kid of an item without kids: %+v %v", kid, ok)
		}
	}
	last := of(some(50, text("a"))...)
	last.Kids[49].Tag = 7
	if kid, ok := ttlv.Kid(last, 7); !ok || kid.Tag != 7 {
		t.Errorf("6.3: Kid at the end: %+v %v", kid, ok)
	}
}

// Kid hands out what there is, right or not, with all that is in it.
func TestKidThatIsNotRight(t *testing.T) {
	odd := item{Tag: 0, Type: -3, Int: 1 << 40, Data: []byte("\xff"), Kids: []item{{Type: 99, Data: []byte("d"), Kids: []item{{Int: 5}}}, {}}}
	for _, outer := range []item{of(text("a"), odd), {Type: ttlv.Text, Kids: []item{odd}}, {Kids: []item{odd, {}}}} {
		if kid, ok := ttlv.Kid(outer, 0); !ok || !alike(kid, odd) {
			t.Errorf("6.3: Kid is %+v %v", kid, ok)
		}
	}
	zero, ok := ttlv.Kid(of(item{}), 0)
	if !ok || !isNone(zero) {
		t.Errorf("6.3: a kid that is nothing: %+v %v", zero, ok)
	}
	deep := chain(1<<16-1, text("a"))
	if kid, ok := ttlv.Kid(deep, tag); !ok || !ttlv.Same(kid, deep.Kids[0]) {
		t.Errorf("6.3: a kid that is deep: %v", ok)
	}
}
