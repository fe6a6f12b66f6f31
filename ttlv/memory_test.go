package ttlv_test

import (
	"bytes"
	"testing"

	"locksmith/api"
	"locksmith/ttlv"
)

// roomy answers the item anew, with marks in the spare room of its lists.
func roomy(i item) item {
	i.Data = append(append(make([]byte, 0, len(i.Data)+5), i.Data...), "spare"...)[:len(i.Data)]
	kids := make([]item, 0, len(i.Kids)+2)
	for _, kid := range i.Kids {
		kids = append(kids, roomy(kid))
	}
	i.Kids = append(kids, item{Tag: 77, Data: []byte("mark")}, item{Tag: 78})[:len(kids)]
	return i
}

// untouched tells whether a roomy item is as it was made from i.
func untouched(x, i item) bool {
	if x.Tag != i.Tag || x.Type != i.Type || x.Int != i.Int || len(x.Data) != len(i.Data) || len(x.Kids) != len(i.Kids) {
		return false
	}
	if string(x.Data[:cap(x.Data)]) != string(i.Data)+"spare" {
		return false
	}
	spare := x.Kids[:cap(x.Kids)][len(x.Kids):]
	if len(spare) != 2 || !alike(spare[0], item{Tag: 77, Data: []byte("mark")}) || !alike(spare[1], item{Tag: 78}) {
		return false
	}
	for k := range x.Kids {
		if !untouched(x.Kids[k], i.Kids[k]) {
			return false
		}
	}
	return true
}

// places are the addresses of all that items own, their spare room included.
type places struct {
	bytes map[*byte]int
	items map[*item]int
}

func newPlaces() *places { return &places{map[*byte]int{}, map[*item]int{}} }

func (p *places) add(i item) {
	p.addBytes(i.Data)
	kids := i.Kids[:cap(i.Kids)]
	for k := range kids {
		p.items[&kids[k]]++
		p.add(kids[k])
	}
}

func (p *places) addBytes(b []byte) {
	b = b[:cap(b)]
	for k := range b {
		p.bytes[&b[k]]++
	}
}

// shared tells whether some place is owned twice.
func (p *places) shared() bool {
	for _, n := range p.bytes {
		if n > 1 {
			return true
		}
	}
	for _, n := range p.items {
		if n > 1 {
			return true
		}
	}
	return false
}

func mixed() item {
	return of(append(types(), of(text(""), of(text("abc"), text("abc")), data(ttlv.Bytes, []byte("12345678"))), of(), tagged(0x540001, of(text("z"))))...)
}

func TestArgumentsAreNotChanged(t *testing.T) {
	wrong := mixed()
	wrong.Kids = append(wrong.Kids, text("\xff"))
	for _, i := range append(types(), mixed(), wrong, item{}, item{Type: 99, Data: []byte("a"), Kids: []item{{}}}) {
		x, y := roomy(i), roomy(i)
		ttlv.Right(x)
		ttlv.Size(x)
		ttlv.Encode(x)
		ttlv.Same(x, y)
		for _, tag := range []int{tag, 0x540001, 0x420000} {
			ttlv.Kid(x, tag)
		}
		if !untouched(x, i) || !untouched(y, i) {
			t.Errorf("R2: an item was changed: %+v", i)
		}
	}
	for _, b := range [][]byte{laid(mixed()), laid(mixed())[:99], make([]byte, 20), nil, laid(text("a"))} {
		x := append(append(make([]byte, 0, len(b)+5), b...), "spare"...)[:len(b)]
		ttlv.Decode(x)
		if string(x[:cap(x)]) != string(b)+"spare" {
			t.Errorf("R2: Decode's bytes were changed: %x", b)
		}
	}
}

func TestAnswersAreNewMemory(t *testing.T) {
	for _, i := range append(types(), mixed(), of(mixed(), mixed())) {
		b := laid(i)
		x, e := ttlv.Decode(b)
		if e != api.OK {
			t.Fatalf("6.3: %d", e)
		}
		p := newPlaces()
		p.add(x)
		p.addBytes(b)
		if p.shared() {
			t.Errorf("R2: Decode's lists share memory: %+v", i)
		}
		clear(b)
		if !alike(x, i) {
			t.Errorf("R2: Decode kept its bytes: %+v", x)
		}
		y := roomy(i)
		laidOnce, _ := ttlv.Encode(y)
		laidTwice, _ := ttlv.Encode(y)
		p = newPlaces()
		p.add(y)
		p.addBytes(laidOnce)
		p.addBytes(laidTwice)
		if p.shared() {
			t.Errorf("R2: Encode's bytes are not its own: %+v", i)
		}
	}
}

func TestKidIsNewMemory(t *testing.T) {
	inner := mixed()
	for _, i := range append(types(), inner, of(inner, inner), item{Type: 99, Data: []byte("a"), Kids: []item{inner, {Data: []byte("b")}}}) {
		x := roomy(of(of(), tagged(5, i), tagged(5, i)))
		kid, ok := ttlv.Kid(x, 5)
		again, _ := ttlv.Kid(x, 5)
		if !ok || !alike(kid, tagged(5, i)) {
			t.Fatalf("6.3: Kid: %+v %v", kid, ok)
		}
		p := newPlaces()
		p.add(x)
		p.add(kid)
		p.add(again)
		if p.shared() {
			t.Errorf("R2: Kid's lists share memory: %+v", i)
		}
	}
	// Kids of one item that share what they have: the answer's do not.
	shared := []byte("shared")
	list := []item{data(ttlv.Bytes, shared), data(ttlv.Text, shared)}
	kid, ok := ttlv.Kid(of(of(of(list...), of(list...), data(ttlv.Bytes, shared))), tag)
	p := newPlaces()
	p.add(kid)
	if !ok || p.shared() {
		t.Errorf("R2: lists of one answer share memory: %v", ok)
	}
}

// What one call was told is not to be seen in another's answer.
func TestCallsKnowNothingOfOneAnother(t *testing.T) {
	i, b := mixed(), laid(mixed())
	for range 3 {
		ttlv.Decode(bytes.Repeat([]byte{0x42}, 100))
		ttlv.Encode(of(some(api.MaxItems, of())...))
		ttlv.Decode(boxes(20, nil))
		if x, e := ttlv.Decode(b); e != api.OK || !alike(x, i) {
			t.Errorf("R4: %+v %d", x, e)
		}
		if x, e := ttlv.Encode(i); e != api.OK || !bytes.Equal(x, b) || !ttlv.Right(i) {
			t.Errorf("R4: %x %d", x, e)
		}
	}
}
