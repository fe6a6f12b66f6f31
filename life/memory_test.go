package life_test

import (
	"slices"
	"strconv"
	"sync"
	"testing"

	"locksmith/api"
	"locksmith/life"
)

// roomy answers the list anew, with marks in the room behind it.
func roomy[T any](all []T, marks ...T) []T {
	return slices.Concat(all, marks)[: len(all) : len(all)+len(marks)]
}

// withRoom answers the object anew, its lists with marks behind them.
func withRoom(o api.Object) api.Object {
	o.Material = roomy(o.Material, 0xaa, 0xbb)
	o.Names = roomy(o.Names, "mark", "m")
	o.Links = roomy(o.Links, api.Link{Type: 77, Id: "mark"}, api.Link{Type: 78})
	o.Custom = roomy(o.Custom, api.Custom{Name: "mark", Text: "m"}, api.Custom{Text: "n"})
	return o
}

// stretched answers the object with its lists up to the end of their room.
func stretched(o api.Object) api.Object {
	o.Material = o.Material[:cap(o.Material)]
	o.Names = o.Names[:cap(o.Names)]
	o.Links = o.Links[:cap(o.Links)]
	o.Custom = o.Custom[:cap(o.Custom)]
	return o
}

// spoil writes to all that the object's lists have, their room included.
func spoil(o api.Object) {
	o = stretched(o)
	for i := range o.Material {
		o.Material[i] ^= 0x5a
	}
	for i := range o.Names {
		o.Names[i] += "!"
	}
	for i := range o.Links {
		o.Links[i].Type ^= 1
		o.Links[i].Id += "!"
	}
	for i := range o.Custom {
		o.Custom[i].Name += "!"
		o.Custom[i].Text += "!"
	}
}

// answers are those of all calls that are asked for the same.
type answers struct {
	moved   api.Object
	due     []int
	next    int64
	ok      bool
	made    [5]api.Object
	reasons [5]int
}

func askAll(o api.Object, a asked) answers {
	var all answers
	all.moved, all.due = life.Move(o, a.now), life.Due(o, a.now)
	all.next, all.ok = life.Next(o)
	for i, c := range five() {
		all.made[i], all.reasons[i] = c.ask(o, a)
	}
	return all
}

// objects answers each object that was made.
func (a answers) objects() []api.Object { return append(a.made[:], a.moved) }

// anew answers them as new memory, made here.
func (a answers) anew() answers {
	a.moved, a.due = withRoom(a.moved), slices.Clone(a.due)
	for i, o := range a.made {
		a.made[i] = withRoom(o)
	}
	return a
}

func (a answers) equal(b answers) bool {
	equal := a.next == b.next && a.ok == b.ok && a.reasons == b.reasons && alike(a.moved, b.moved) && slices.Equal(a.due, b.due)
	for i := range a.made {
		equal = equal && alike(a.made[i], b.made[i])
	}
	return equal
}

// question is an object, and what is asked of it.
type question struct {
	o   api.Object
	ask asked
}

func questions() []question {
	var all []question
	for _, state := range states() {
		for i, ask := range []asked{revoked(1), revoked(2), revoked(8), {2, "", none, 1 << 40}} {
			for _, o := range []api.Object{full(state), plain(state), timed(state, at(5), at(7)), timed(state, at(5), at(70))} {
				o.Archived = i == 2
				all = append(all, question{o, ask})
			}
		}
	}
	draw := drawer(111)
	for range 40 {
		all = append(all, question{drawObject(draw), drawAsked(draw)})
	}
	return all
}

func checkAnswers(t *testing.T, what string, got, want answers) {
	t.Helper()
	if !got.equal(want) {
		t.Errorf("R2: %s: answered otherwise: %+v, want %+v", what, got, want)
	}
}

func TestArgumentsAreNotChanged(t *testing.T) {
	for i, q := range questions() {
		given, before := withRoom(q.o), stretched(withRoom(q.o))
		got := askAll(given, q.ask)
		if !alike(stretched(given), before) {
			t.Errorf("R2: object %d was changed, or what stands behind its lists: %+v", i, stretched(given))
		}
		// What stands behind the lists is not read.
		checkAnswers(t, "with room", got, askAll(q.o, q.ask))
	}
}

// Who writes to what was handed in turns no answer that was given, and no
// later one.
func TestNothingIsKept(t *testing.T) {
	for i, q := range questions() {
		given := withRoom(q.o)
		got := askAll(given, q.ask)
		before := got.anew()
		spoil(given)
		checkAnswers(t, "object "+strconv.Itoa(i)+", handed in and written to", got, before)
		checkAnswers(t, "object "+strconv.Itoa(i)+", asked again", askAll(q.o, q.ask), before)
	}
}

// Who writes to an answer turns nothing that was handed in, no other answer,
// and no later one.
func TestAnswersAreNew(t *testing.T) {
	for i, q := range questions() {
		given, before := withRoom(q.o), stretched(withRoom(q.o))
		one, two := askAll(given, q.ask), askAll(given, q.ask)
		want := two.anew()
		for _, o := range one.objects() {
			spoil(o)
		}
		for i := range one.due[:cap(one.due)] {
			one.due[:cap(one.due)][i] += 50
		}
		if !alike(stretched(given), before) {
			t.Errorf("R2: object %d: an answer shares memory with what was handed in", i)
		}
		checkAnswers(t, "object "+strconv.Itoa(i)+", another answer", two, want)
		checkAnswers(t, "object "+strconv.Itoa(i)+", a later answer", askAll(given, q.ask), want)
	}
}

// checkOwn holds that no two lists share a place.
func checkOwn[T any](t *testing.T, what string, lists ...[]T) {
	t.Helper()
	seen := map[*T]bool{}
	for _, all := range lists {
		all = all[:cap(all)]
		for i := range all {
			if seen[&all[i]] {
				t.Errorf("R2: %s share memory", what)
				return
			}
			seen[&all[i]] = true
		}
	}
}

// checkOwnLists holds that no two objects share a place of their lists.
func checkOwnLists(t *testing.T, all ...api.Object) {
	t.Helper()
	var materials [][]byte
	var names [][]string
	var links [][]api.Link
	var custom [][]api.Custom
	for _, o := range all {
		materials, names = append(materials, o.Material), append(names, o.Names)
		links, custom = append(links, o.Links), append(custom, o.Custom)
	}
	checkOwn(t, "Materials", materials...)
	checkOwn(t, "Names", names...)
	checkOwn(t, "Links", links...)
	checkOwn(t, "Custom", custom...)
}

func TestAnswersOwnTheirLists(t *testing.T) {
	for _, q := range questions() {
		o := withRoom(q.o)
		one, two := askAll(o, q.ask), askAll(o, q.ask)
		checkOwnLists(t, append(append(one.objects(), two.objects()...), o)...)
		checkOwn(t, "Due's states", one.due, two.due)
	}
}

// Lists that begin in the midst of others, or are empty with room behind them,
// are the answer's own, too.
func TestPartsOfLists(t *testing.T) {
	o := withRoom(full(api.PreActive))
	x := o
	x.Material, x.Names, x.Links, x.Custom = o.Material[:1], o.Names[1:], o.Links[:0], o.Custom[:0]
	got := askAll(x, asked{2, "m", none, 2000})
	checkOwnLists(t, append(got.objects(), o)...)
	for _, made := range got.objects() {
		grown := append(made.Links, api.Link{Type: 105, Id: "grown"})
		more := append(made.Custom, api.Custom{Name: "x-grown"})
		if o.Links[0] == grown[0] || o.Custom[0] == more[0] {
			t.Error("R2: what is put behind an answer's list is seen in what was handed in")
		}
	}
}

// What was destroyed has its material nowhere, not behind its list either.
func TestDestroyedHasNoMaterial(t *testing.T) {
	for _, state := range []int{api.PreActive, api.Deactivated, api.Compromised} {
		o := withRoom(full(state))
		x, reason := life.Destroy(o, 9)
		if reason != api.Fine || len(x.Material) != 0 {
			t.Errorf("11.2: Destroy of state %d: %d, %+v", state, reason, x)
		}
		for _, b := range x.Material[:cap(x.Material)] {
			if b != 0 {
				t.Errorf("11.2: Destroy of state %d leaves %x behind the list", state, x.Material[:cap(x.Material)])
			}
		}
		if !slices.Equal(o.Material, full(state).Material) {
			t.Errorf("R2: Destroy of state %d changes what was handed in", state)
		}
	}
}

func TestCallsKnowNothingOfOneAnother(t *testing.T) {
	all := questions()
	var alone []answers
	for _, q := range all {
		alone = append(alone, askAll(q.o, q.ask))
	}
	for range 3 {
		for i := range all {
			i = i * 7 % len(all)
			if !askAll(all[i].o, all[i].ask).equal(alone[i]) {
				t.Errorf("R7: object %d is answered otherwise behind others", i)
			}
		}
	}
}

func TestSideBySide(t *testing.T) {
	o := timed(api.PreActive, at(5), at(7))
	want := askAll(o, revoked(2))
	equal := make([]bool, 8)
	var group sync.WaitGroup
	for i := range equal {
		group.Go(func() {
			equal[i] = true
			for range 200 {
				equal[i] = equal[i] && askAll(o, revoked(2)).equal(want)
			}
		})
	}
	group.Wait()
	for i, ok := range equal {
		if !ok {
			t.Errorf("R7: worker %d is answered otherwise", i)
		}
	}
}
