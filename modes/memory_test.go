package modes_test

import (
	"bytes"
	"sync"
	"testing"

	"locksmith/api"
	"locksmith/modes"
)

// answers are those of all calls for the same bytes.
type answers struct {
	padded, unpadded, box, text, tag []byte
	unpad, seal, open, mac           api.Errno
}

// askAll makes each call once; Open and Unpad get the box.
func askAll(key, iv, text, box []byte) answers {
	var a answers
	a.padded = modes.Pad(text)
	a.unpadded, a.unpad = modes.Unpad(box)
	a.box, a.seal = modes.Seal(key, iv, text)
	a.text, a.open = modes.Open(key, iv, box)
	a.tag, a.mac = modes.Mac(key, text)
	return a
}

func (a answers) lists() [][]byte {
	return [][]byte{a.padded, a.unpadded, a.box, a.text, a.tag}
}

// copied answers them as new memory.
func (a answers) copied() answers {
	for _, list := range []*[]byte{&a.padded, &a.unpadded, &a.box, &a.text, &a.tag} {
		*list = bytes.Clone(*list)
	}
	return a
}

func (a answers) same(b answers) bool {
	for i, list := range a.lists() {
		if !bytes.Equal(list, b.lists()[i]) {
			return false
		}
	}
	return a.unpad == b.unpad && a.seal == b.seal && a.open == b.open && a.mac == b.mac
}

// spoil writes to all of a list, its spare room included.
func spoil(list []byte) {
	list = list[:cap(list)]
	for i := range list {
		list[i] ^= 0x5a
	}
}

// question is what is handed in, each part with room behind it in one piece of
// memory.
type question struct {
	room               []byte
	key, iv, text, box []byte
}

// ask draws one: of good arguments; the box is padded itself, so that Unpad
// takes it, too.
func ask(t *testing.T, draw func(int) []byte, keySize, textSize int) question {
	t.Helper()
	q := question{room: draw(4 * 200)}
	q.key, q.iv, q.text = q.room[:keySize], q.room[200:216], q.room[400:400+textSize]
	box := boxThatIsPadded(t, draw, q.key, q.iv)
	q.box = q.room[600 : 600+copy(q.room[600:], box)]
	return q
}

// boxThatIsPadded answers a box that Unpad takes as it is: it draws texts until
// a box ends in a 1.
func boxThatIsPadded(t *testing.T, draw func(int) []byte, key, iv []byte) []byte {
	t.Helper()
	for {
		box := sealed(t, key, iv, draw(20))
		if box[len(box)-1] == 1 {
			return box
		}
	}
}

// TestChangesNothing: what is handed in, right or wrong, and all room between.
func TestChangesNothing(t *testing.T) {
	draw := drawer(14)
	for _, k := range []int{0, 15, 16, 24, 32, 33} {
		for n := range 101 {
			room := draw(800)
			before := bytes.Clone(room)
			for _, iv := range []int{0, 15, 16, 17} {
				askAll(room[:k], room[200:200+iv], room[400:400+n], room[600:600+n])
			}
			if !bytes.Equal(room, before) {
				t.Fatalf("R2: a key of %d, texts and boxes of %d: bytes are changed that were handed in, or stand behind them", k, n)
			}
		}
	}
}

// TestOneMemory: key, iv, text and box may be the same bytes, or overlap.
func TestOneMemory(t *testing.T) {
	draw := drawer(15)
	for range 200 {
		room := draw(64)
		before := bytes.Clone(room)
		for _, k := range lengths {
			got := askAll(room[:k], room[8:24], room[:40], room[4:52])
			want := askAll(bytes.Clone(room[:k]), bytes.Clone(room[8:24]), bytes.Clone(room[:40]), bytes.Clone(room[4:52]))
			if !got.same(want) || !bytes.Equal(room, before) {
				t.Fatalf("R2: arguments that overlap are not answered as others")
			}
		}
	}
}

// TestKeepsNothing: who writes to what was handed in turns no answer that was
// given, and no later one.
func TestKeepsNothing(t *testing.T) {
	draw := drawer(16)
	for _, k := range lengths {
		for _, n := range []int{0, 1, 15, 16, 17, 32, 100} {
			q := ask(t, draw, k, n)
			before := bytes.Clone(q.room)
			got := askAll(q.key, q.iv, q.text, q.box)
			if got.unpad != api.OK || got.seal != api.OK || got.open != api.OK || got.mac != api.OK {
				t.Fatalf("9.1: %d %d %d %d", got.unpad, got.seal, got.open, got.mac)
			}
			first := got.copied()
			spoil(q.room)
			if !got.same(first) {
				t.Fatalf("R2: %d bytes under %d: an answer hangs on what was handed in", n, k)
			}
			copy(q.room, before)
			if !askAll(q.key, q.iv, q.text, q.box).same(first) {
				t.Fatalf("R2: %d bytes under %d: a later answer hangs on what was handed in ahead", n, k)
			}
		}
	}
}

// TestAnswersAreNew: who writes to one, its spare room included, turns nothing
// else: not what was handed in, not another answer, not a later one.
func TestAnswersAreNew(t *testing.T) {
	draw := drawer(17)
	for _, k := range lengths {
		for _, n := range []int{0, 1, 15, 16, 17, 32, 100} {
			q := ask(t, draw, k, n)
			before := bytes.Clone(q.room)
			one, two := askAll(q.key, q.iv, q.text, q.box), askAll(q.key, q.iv, q.text, q.box)
			first := two.copied()
			for i, list := range one.lists() {
				kept := one.copied()
				spoil(list)
				for j, other := range one.lists() {
					if i != j && !bytes.Equal(other, kept.lists()[j]) {
						t.Fatalf("R2: answers %d and %d share memory", i, j)
					}
				}
			}
			if !bytes.Equal(q.room, before) {
				t.Fatalf("R2: %d bytes under %d: an answer shares memory with what was handed in", n, k)
			}
			if !two.same(first) || !askAll(q.key, q.iv, q.text, q.box).same(first) {
				t.Fatalf("R2: %d bytes under %d: an answer shares memory with another one", n, k)
			}
		}
	}
}

// TestOneBehindTheOther: calls know nothing of one another, refused ones too.
func TestOneBehindTheOther(t *testing.T) {
	draw := drawer(18)
	var questions []question
	var alone []answers
	for i := range 60 {
		q := ask(t, draw, lengths[i%3], i)
		if i%4 == 3 {
			q.iv, q.box = q.iv[:i%16], q.box[:i%32]
		}
		questions = append(questions, q)
		alone = append(alone, askAll(q.key, q.iv, q.text, q.box))
	}
	for range 3 {
		for i := range questions {
			i = i * 7 % len(questions)
			q := questions[i]
			if !askAll(q.key, q.iv, q.text, q.box).same(alone[i]) {
				t.Errorf("R7: question %d of many is answered otherwise than ahead of the others", i)
			}
		}
	}
}

// TestSideBySide: likewise where they are under way at the same time.
func TestSideBySide(t *testing.T) {
	draw := drawer(19)
	q := ask(t, draw, 24, 50)
	want := askAll(q.key, q.iv, q.text, q.box)
	same := make([]bool, 8)
	var group sync.WaitGroup
	for i := range same {
		group.Go(func() {
			same[i] = true
			for range 30 {
				same[i] = same[i] && askAll(q.key, q.iv, q.text, q.box).same(want)
			}
		})
	}
	group.Wait()
	for i, ok := range same {
		if !ok {
			t.Errorf("R7: worker %d is answered otherwise", i)
		}
	}
}

// TestNoPanic: R1: whatever bytes are handed in; and R3 for all of them.
func TestNoPanic(t *testing.T) {
	draw := drawer(20)
	for k := range 40 {
		for iv := range 20 {
			for n := range 50 {
				a := askAll(draw(k), draw(iv), draw(n), draw(n))
				for i, e := range []api.Errno{api.OK, a.unpad, a.seal, a.open, a.mac} {
					if e != api.OK && a.lists()[i] != nil {
						t.Fatalf("R3: %d bytes beside %d", len(a.lists()[i]), e)
					}
				}
				if a.unpad != api.OK && a.unpad != api.ErrPad || a.seal != api.OK && a.seal != api.ErrArg || a.mac != api.OK && a.mac != api.ErrArg {
					t.Fatalf("9.1: errors %d, %d, %d that the chapter does not name", a.unpad, a.seal, a.mac)
				}
			}
		}
	}
	for _, a := range []answers{askAll(nil, nil, nil, nil), askAll([]byte{}, []byte{}, []byte{}, []byte{})} {
		want := answers{padded: bytes.Repeat([]byte{16}, 16), unpad: api.ErrPad, seal: api.ErrArg, open: api.ErrArg, mac: api.ErrArg}
		if !a.same(want) {
			t.Errorf("9.1: of nothing at all: %v, want %v", a, want)
		}
	}
}
