package allow_test

import (
	"slices"
	"strconv"
	"sync"
	"testing"

	"locksmith/allow"
	"locksmith/api"
)

// roomy answers the list anew, with marks in the room behind it.
func roomy[T any](all []T, marks ...T) []T {
	return slices.Concat(all, marks)[: len(all) : len(all)+len(marks)]
}

// withRoom answers the object anew, its lists with marks behind them.
func withRoom(o api.Object) api.Object {
	o.Material = roomy(o.Material, 0xaa, 0xbb)
	o.Names = roomy(o.Names, "mark", "m")
	o.Links = roomy(o.Links, api.Link{Type: 77, Id: "mark"}, api.Link{Type: 78})
	o.Custom = roomy(o.Custom, api.Custom{Name: "mark", Text: "m"}, api.Custom{Text: "n"})
	return o
}

// stretched answers the object with its lists up to the end of their room.
func stretched(o api.Object) api.Object {
	o.Material = o.Material[:cap(o.Material)]
	o.Names = o.Names[:cap(o.Names)]
	o.Links = o.Links[:cap(o.Links)]
	o.Custom = o.Custom[:cap(o.Custom)]
	return o
}

// spoil writes to all that the object's lists have, their room included.
func spoil(o api.Object) {
	o = stretched(o)
	for i := range o.Material {
		o.Material[i] ^= 0x5a
	}
	for i := range o.Names {
		o.Names[i] += "!"
	}
	for i := range o.Links {
		o.Links[i].Type ^= 1
		o.Links[i].Id += "!"
	}
	for i := range o.Custom {
		o.Custom[i].Name += "!"
		o.Custom[i].Text += "!"
	}
}

// answers are those of all calls that are asked for the same.
type answers struct {
	use, bit int
	made     [2]api.Object
	reasons  [2]int
}

func askAll(o api.Object, a asked) answers {
	var all answers
	all.use, all.bit = allow.Use(o, a.op, a.now), allow.Bit(a.op)
	all.made[0], all.reasons[0] = allow.Spend(o, a.op, a.size, a.now)
	all.made[1], all.reasons[1] = allow.Allocate(o, a.count, a.now)
	return all
}

// anew answers them as new memory, made here.
func (a answers) anew() answers {
	for i, o := range a.made {
		a.made[i] = withRoom(o)
	}
	return a
}

func (a answers) equal(b answers) bool {
	return a.use == b.use && a.bit == b.bit && a.reasons == b.reasons && alike(a.made[0], b.made[0]) && alike(a.made[1], b.made[1])
}

// question is an object, and what is asked of it.
type question struct {
	o   api.Object
	ask asked
}

// questions have such that nothing is taken by, such that are refused, and such
// that something is taken by.
func questions() []question {
	var all []question
	for _, state := range states() {
		for _, op := range append(four(), api.Get) {
			byBytes, byUses := limited(10, 1), limited(10, 2)
			byBytes.State, byUses.State = state, state
			for _, o := range []api.Object{full(state), ofState(state), byBytes, byUses} {
				for size, count := range []int64{10, 0, 1, 11, 44} {
					all = append(all, question{o, asked{op, size, count, 9}})
				}
				o.Archived = true
				all = append(all, question{o, asked{op, 1, 1, 9}})
			}
		}
	}
	draw := drawer(125)
	for range 61 {
		all = append(all, question{drawObject(draw), drawAsked(draw)})
	}
	return all
}

func checkAnswers(t *testing.T, what string, got, want answers) {
	t.Helper()
	if !got.equal(want) {
		t.Errorf("R2: %s: answered otherwise: %+v, want %+v", what, got, want)
	}
}

func TestArgumentsAreNotChanged(t *testing.T) {
	for i, q := range questions() {
		given, before := withRoom(q.o), stretched(withRoom(q.o))
		got := askAll(given, q.ask)
		if !alike(stretched(given), before) {
			t.Errorf("R2: object %d was changed, or what stands behind its lists: %+v", i, stretched(given))
		}
		// What stands behind the lists is not read.
		checkAnswers(t, "with room", got, askAll(q.o, q.ask))
	}
}

// Who writes to what was handed in turns no answer that was given, and no
// later one.
func TestNothingIsKept(t *testing.T) {
	for i, q := range questions() {
		given := withRoom(q.o)
		got := askAll(given, q.ask)
		before := got.anew()
		spoil(given)
		checkAnswers(t, "object "+strconv.Itoa(i)+", handed in and written to", got, before)
		checkAnswers(t, "object "+strconv.Itoa(i)+", asked again", askAll(q.o, q.ask), before)
	}
}

// Who writes to an answer turns nothing that was handed in, no other answer,
// and no later one.
func TestAnswersAreNew(t *testing.T) {
	for i, q := range questions() {
		given, before := withRoom(q.o), stretched(withRoom(q.o))
		one, two := askAll(given, q.ask), askAll(given, q.ask)
		want := two.anew()
		for _, o := range one.made {
			spoil(o)
		}
		if !alike(stretched(given), before) {
			t.Errorf("R2: object %d: an answer shares memory with what was handed in", i)
		}
		checkAnswers(t, "object "+strconv.Itoa(i)+", another answer", two, want)
		checkAnswers(t, "object "+strconv.Itoa(i)+", a later answer", askAll(given, q.ask), want)
	}
}

// checkOwn holds that no two lists share a place.
func checkOwn[T any](t *testing.T, what string, lists ...[]T) {
	t.Helper()
	seen := map[*T]bool{}
	for _, all := range lists {
		all = all[:cap(all)]
		for i := range all {
			if seen[&all[i]] {
				t.Errorf("R2: %s share memory", what)
				return
			}
			seen[&all[i]] = true
		}
	}
}

// checkOwnLists holds that no two objects share a place of their lists.
func checkOwnLists(t *testing.T, all ...api.Object) {
	t.Helper()
	var materials [][]byte
	var names [][]string
	var links [][]api.Link
	var custom [][]api.Custom
	for _, o := range all {
		materials, names = append(materials, o.Material), append(names, o.Names)
		links, custom = append(links, o.Links), append(custom, o.Custom)
	}
	checkOwn(t, "Materials", materials...)
	checkOwn(t, "Names", names...)
	checkOwn(t, "Links", links...)
	checkOwn(t, "Custom", custom...)
}

func TestAnswersOwnTheirLists(t *testing.T) {
	for _, q := range questions() {
		o := withRoom(q.o)
		one, two := askAll(o, q.ask), askAll(o, q.ask)
		checkOwnLists(t, slices.Concat(one.made[:], two.made[:], []api.Object{o})...)
	}
}

// Lists that begin in the midst of others, or are empty with room behind them,
// are the answer's own, too.
func TestPartsOfLists(t *testing.T) {
	o := withRoom(full(api.Active))
	x := o
	x.Material, x.Names, x.Links, x.Custom = o.Material[:16], o.Names[1:], o.Links[:0], o.Custom[:0]
	for _, op := range four() {
		checkPart(t, askAll(x, asked{op, 3, 3, 9}), o)
		checkPart(t, askAll(x, asked{op, 0, 3, 9}), o)
	}
}

// checkPart holds that what was made of parts of the object's lists shares
// nothing with it, and may grow.
func checkPart(t *testing.T, got answers, o api.Object) {
	t.Helper()
	if got.reasons != [2]int{} {
		t.Errorf("12.2: a part of the material: %v", got.reasons)
	}
	checkOwnLists(t, append(got.made[:], o)...)
	for _, made := range got.made {
		grown := append(made.Links, api.Link{Type: 105, Id: "grown"})
		more := append(made.Custom, api.Custom{Name: "x-grown"})
		if o.Links[0] == grown[0] || o.Custom[0] == more[0] {
			t.Error("R2: what is put behind an answer's list is seen in what was handed in")
		}
	}
}

func TestCallsKnowNothingOfOneAnother(t *testing.T) {
	all := questions()
	var alone []answers
	for _, q := range all {
		alone = append(alone, askAll(q.o, q.ask))
	}
	for range 3 {
		for i := range all {
			i = i * 7 % len(all)
			if !askAll(all[i].o, all[i].ask).equal(alone[i]) {
				t.Errorf("R7: object %d is answered otherwise behind others", i)
			}
		}
	}
}

func TestSideBySide(t *testing.T) {
	o, ask := limited(10, 1), asked{api.Mac, 4, 5, 9}
	want := askAll(o, ask)
	equal := make([]bool, 8)
	var group sync.WaitGroup
	for i := range equal {
		group.Go(func() {
			equal[i] = true
			for range 200 {
				equal[i] = equal[i] && askAll(o, ask).equal(want)
			}
		})
	}
	group.Wait()
	for i, ok := range equal {
		if !ok {
			t.Errorf("R7: worker %d is answered otherwise", i)
		}
	}
}
