package object_test

import (
	"bytes"
	"slices"
	"strconv"
	"sync"
	"testing"

	"locksmith/api"
	"locksmith/object"
)

// roomy answers the list anew, with marks in the room behind it.
func roomy[T any](all []T, marks ...T) []T {
	return slices.Concat(all, marks)[: len(all) : len(all)+len(marks)]
}

// withRoom answers the object anew, its lists with marks behind them.
func withRoom(o api.Object) api.Object {
	o.Material = roomy(o.Material, 0xaa, 0xbb)
	o.Names = roomy(o.Names, "mark", "m")
	o.Links = roomy(o.Links, api.Link{Type: 77, Id: "mark"}, api.Link{Type: 78})
	o.Custom = roomy(o.Custom, api.Custom{Name: "mark", Text: "m"}, api.Custom{Text: "n"})
	return o
}

// stretched answers the object with its lists up to the end of their room.
func stretched(o api.Object) api.Object {
	o.Material = o.Material[:cap(o.Material)]
	o.Names = o.Names[:cap(o.Names)]
	o.Links = o.Links[:cap(o.Links)]
	o.Custom = o.Custom[:cap(o.Custom)]
	return o
}

// spoil writes to all that the object's lists have, their room included.
func spoil(o api.Object) {
	o = stretched(o)
	for i := range o.Material {
		o.Material[i] ^= 0x5a
	}
	for i := range o.Names {
		o.Names[i] += "!"
	}
	for i := range o.Links {
		o.Links[i].Type ^= 1
		o.Links[i].Id += "!"
	}
	for i := range o.Custom {
		o.Custom[i].Name += "!"
		o.Custom[i].Text += "!"
	}
}

// spoilBytes writes to the bytes and to the room behind them.
func spoilBytes(b []byte) {
	b = b[:cap(b)]
	for i := range b {
		b[i] ^= 0x5a
	}
}

// answers are those of all calls that are asked for the same.
type answers struct {
	right, same, isText, isCustom bool
	laid                          []byte
	lay, form                     api.Errno
	read, copied                  api.Object
}

func askAll(o api.Object, b []byte) answers {
	var a answers
	a.right = object.Right(o)
	a.same = object.Same(o, full())
	a.isText, a.isCustom = object.IsText(o.Id), object.IsCustom(o.Message)
	a.laid, a.lay = object.Lay(o)
	a.read, a.form = object.Read(b)
	a.copied = object.Copy(o)
	return a
}

// anew answers them as new memory, made here.
func (a answers) anew() answers {
	a.laid = bytes.Clone(a.laid)
	a.read, a.copied = withRoom(a.read), withRoom(a.copied)
	return a
}

func (a answers) equal(b answers) bool {
	return a.right == b.right && a.same == b.same && a.isText == b.isText && a.isCustom == b.isCustom &&
		bytes.Equal(a.laid, b.laid) && a.lay == b.lay && a.form == b.form && alike(a.read, b.read) && alike(a.copied, b.copied)
}

// questions are objects, right and wrong.
func questions() []api.Object {
	all := append(bases(), api.Object{})
	draw := drawer(101)
	for range 40 {
		all = append(all, drawObject(draw))
	}
	for _, c := range wrongObjects() {
		o := full()
		c.turn(&o)
		all = append(all, o)
	}
	return all
}

func TestArgumentsAreNotChanged(t *testing.T) {
	for i, o := range questions() {
		given, before := withRoom(o), stretched(withRoom(o))
		b := roomy(laid(o), 1, 2, 3)
		laidBefore := bytes.Clone(b[:cap(b)])
		askAll(given, b)
		object.Same(given, given)
		if !alike(stretched(given), before) {
			t.Errorf("R2: object %d was changed, or what stands behind its lists: %+v", i, stretched(given))
		}
		if !bytes.Equal(b[:cap(b)], laidBefore) {
			t.Errorf("R2: the bytes of object %d were changed, or what stands behind them", i)
		}
		// What stands behind the bytes and the lists is not read.
		checkAnswers(t, "with room", askAll(given, b), askAll(o, laid(o)))
	}
}

func checkAnswers(t *testing.T, what string, got, want answers) {
	t.Helper()
	if !got.equal(want) {
		t.Errorf("R2: %s: answered otherwise: %+v, want %+v", what, got, want)
	}
}

// Who writes to what was handed in turns no answer that was given, and no
// later one.
func TestNothingIsKept(t *testing.T) {
	for i, o := range questions() {
		given, b := withRoom(o), roomy(laid(o), 1, 2, 3)
		got := askAll(given, b)
		before := got.anew()
		spoil(given)
		spoilBytes(b)
		checkAnswers(t, "object "+strconv.Itoa(i)+", handed in and written to", got, before)
		checkAnswers(t, "object "+strconv.Itoa(i)+", asked again", askAll(o, laid(o)), before)
	}
}

// Who writes to an answer turns nothing that was handed in, no other answer,
// and no later one.
func TestAnswersAreNew(t *testing.T) {
	for i, o := range questions() {
		given, b := withRoom(o), roomy(laid(o), 1, 2, 3)
		object0, bytes0 := stretched(withRoom(o)), bytes.Clone(b[:cap(b)])
		one, two := askAll(given, b), askAll(given, b)
		before := two.anew()
		for _, write := range []func(){
			func() { spoilBytes(one.laid) },
			func() { spoil(one.read) },
			func() { spoil(one.copied) },
		} {
			write()
			if !alike(stretched(given), object0) || !bytes.Equal(b[:cap(b)], bytes0) {
				t.Errorf("R2: object %d: an answer shares memory with what was handed in", i)
			}
			checkAnswers(t, "object "+strconv.Itoa(i)+", another answer", two, before)
			checkAnswers(t, "object "+strconv.Itoa(i)+", a later answer", askAll(given, b), before)
		}
	}
}

// checkOwn holds that no two lists share a place.
func checkOwn[T any](t *testing.T, what string, lists ...[]T) {
	t.Helper()
	seen := map[*T]bool{}
	for _, all := range lists {
		all = all[:cap(all)]
		for i := range all {
			if seen[&all[i]] {
				t.Errorf("R2: %s share memory", what)
				return
			}
			seen[&all[i]] = true
		}
	}
}

// A copy of an object whose lists are parts of one piece of memory, or another
// object's, has its own.
func TestCopyOwnsItsLists(t *testing.T) {
	o := full()
	x := o
	x.Names, x.Links, x.Custom, x.Material = o.Names[:2], o.Links[1:], o.Custom[:0], o.Material[:1]
	a, b, c := object.Copy(o), object.Copy(x), object.Copy(o)
	checkOwn(t, "Names", o.Names, a.Names, b.Names, c.Names)
	checkOwn(t, "Links", o.Links, a.Links, b.Links, c.Links)
	checkOwn(t, "Custom", o.Custom, a.Custom, b.Custom, c.Custom)
	checkOwn(t, "Material", o.Material, a.Material, b.Material, c.Material)
	if !alike(a, full()) || !alike(b, x) || !alike(c, full()) {
		t.Error("10.2: a copy is not the same")
	}
	a.Material[0], a.Names[0], a.Links[0].Type, a.Links[1].Id = 1, "z", 105, "z"
	a.Custom[0].Text, a.Custom[1].Name, a.Dates[2].At, a.Limits.Count = "z", "x-z", 99, 3
	if !alike(o, full()) || !alike(c, full()) || !alike(b, x) {
		t.Error("R2: what is written to a copy is seen elsewhere")
	}
	o.Material[0], o.Names[0], o.Links[0].Type, o.Custom[0].Text = 77, "y", 106, "y"
	if !alike(c, full()) {
		t.Error("R2: what is written to an object is seen in its copy")
	}
	grown := append(b.Custom, api.Custom{Name: "x-grown"})
	if o.Custom[0].Name == grown[0].Name {
		t.Error("R2: what is put behind a copy's list is seen elsewhere")
	}
}

// What was read owns its lists.
func TestReadOwnsItsLists(t *testing.T) {
	for _, o := range bases() {
		b := laid(o)
		one, _ := object.Read(b)
		other, _ := object.Read(b)
		checkOwn(t, "Names", one.Names, other.Names)
		checkOwn(t, "Links", one.Links, other.Links)
		checkOwn(t, "Custom", one.Custom, other.Custom)
		checkOwn(t, "Material and bytes", b, one.Material, other.Material)
		// Texts do not hang on the bytes either.
		clear(b)
		if !alike(one, o) || !alike(other, o) {
			t.Errorf("R2: Read keeps its bytes: %+v", one)
		}
		again, _ := object.Lay(o)
		more, _ := object.Lay(o)
		checkOwn(t, "Lay's bytes", again, more, o.Material)
	}
}

func TestCallsKnowNothingOfOneAnother(t *testing.T) {
	all := questions()
	var alone []answers
	for _, o := range all {
		alone = append(alone, askAll(o, laid(o)))
	}
	for range 3 {
		for i := range all {
			i = i * 7 % len(all)
			if !askAll(all[i], laid(all[i])).equal(alone[i]) {
				t.Errorf("R7: object %d is answered otherwise behind others", i)
			}
		}
	}
}

func TestSideBySide(t *testing.T) {
	o, b := full(), laid(most())
	want := askAll(o, b)
	equal := make([]bool, 8)
	var group sync.WaitGroup
	for i := range equal {
		group.Go(func() {
			equal[i] = true
			for range 200 {
				equal[i] = equal[i] && askAll(o, b).equal(want)
			}
		})
	}
	group.Wait()
	for i, ok := range equal {
		if !ok {
			t.Errorf("R7: worker %d is answered otherwise", i)
		}
	}
}
