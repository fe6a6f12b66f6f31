package object_test

import (
	"math"
	"strconv"
	"strings"
	"testing"

	"locksmith/api"
	"locksmith/object"
)

// turned is what is done to an object that is right, and whether it is so yet.
type turned struct {
	what string
	turn func(*api.Object)
	want bool
}

// bases are the objects that are turned in one field alone.
func bases() []api.Object { return []api.Object{plain(), full(), most()} }

// checkTurned turns each base, and asks whether it is right, laid and read.
func checkTurned(t *testing.T, all []turned) {
	t.Helper()
	for _, c := range all {
		for i, o := range bases() {
			c.turn(&o)
			what := c.what + ", object " + strconv.Itoa(i)
			if right(o) != c.want {
				t.Fatalf("%s: the test's own rules say %v", what, !c.want)
			}
			if !c.want {
				checkWrong(t, what, o)
				continue
			}
			checkTaken(t, what, o, laid(o))
		}
	}
}

// numbers asks of a field that may have the numbers from low to high alone.
func numbers(what string, low, high int, field func(*api.Object) *int) []turned {
	var all []turned
	for _, n := range []int{low - 1, low, low + 1, high - 1, high, high + 1, 0, -1, low - 256, high + 256, low + 1<<32, math.MaxInt, math.MinInt} {
		all = append(all, turned{what + " " + strconv.Itoa(n), func(o *api.Object) { *field(o) = n }, low <= n && n <= high})
	}
	return all
}

// texts asks of a field that must be a text.
func texts(what string, field func(*api.Object) *string) []turned {
	var all []turned
	for _, n := range []int{0, 1, 2, 119, 120, 121, 122, 376, 65536 + 5} {
		all = append(all, turned{what + " of " + strconv.Itoa(n), func(o *api.Object) { *field(o) = strings.Repeat("b", n) }, n > 0 && n <= 120})
	}
	for _, s := range []string{"\xff", "a\x80", "\xed\xa0\x80", "\xc0\x80", letters(119) + "\xc2", "\xe2\x82"} {
		all = append(all, turned{what + " that is not UTF-8", func(o *api.Object) { *field(o) = s }, false})
	}
	for _, s := range []string{"\x00", "\x00\x00", "é", "€\U0001f511", letters(118) + "é", " ", "\ufffd", "a\nb"} {
		all = append(all, turned{what + " of signs", func(o *api.Object) { *field(o) = s }, true})
	}
	return all
}

func TestRightIsWhatIsRight(t *testing.T) {
	for i, o := range bases() {
		checkTaken(t, "object "+strconv.Itoa(i), o, laid(o))
	}
	checkWrong(t, "the zero object", api.Object{})
}

func TestRightId(t *testing.T) {
	checkTurned(t, texts("Id", func(o *api.Object) *string { return &o.Id }))
}

func TestRightType(t *testing.T) {
	for n := -10; n < 300; n++ {
		want := n == api.Symmetric || n == api.Public || n == api.Private || n == api.Secret
		checkTurned(t, []turned{{"Type " + strconv.Itoa(n), func(o *api.Object) { o.Type = n }, want}})
	}
	for _, n := range []int{1<<32 + 2, 2 - 1<<32, math.MinInt + 2, math.MinInt, math.MaxInt} {
		checkTurned(t, []turned{{"Type " + strconv.Itoa(n), func(o *api.Object) { o.Type = n }, false}})
	}
}

func TestRightNumbers(t *testing.T) {
	checkTurned(t, numbers("Algorithm", 0, 100, func(o *api.Object) *int { return &o.Algorithm }))
	checkTurned(t, numbers("Length", 0, 100000, func(o *api.Object) *int { return &o.Length }))
	checkTurned(t, numbers("Mask", 0, 1<<20-1, func(o *api.Object) *int { return &o.Mask }))
	checkTurned(t, numbers("State", 1, 6, func(o *api.Object) *int { return &o.State }))
	for n := range 21 {
		checkTurned(t, []turned{{"a bit of the Mask", func(o *api.Object) { o.Mask = 1 << n }, n < 20}})
	}
}

func TestRightMaterial(t *testing.T) {
	for _, n := range []int{0, 1, 2, 16, 127, 128, 129, 130, 256, 384, 65535, 65536, 65536 + 16} {
		material := make([]byte, n)
		for i := range material {
			material[i] = byte(i * 7)
		}
		checkTurned(t, []turned{{"Material of " + strconv.Itoa(n), func(o *api.Object) { o.Material = material }, n <= 128}})
	}
	checkTurned(t, []turned{{"no Material", func(o *api.Object) { o.Material = nil }, true}})
}

func TestRightDates(t *testing.T) {
	for i := range api.DateCount {
		for _, c := range []struct {
			date api.Date
			want bool
		}{
			{api.Date{}, true},
			{api.Date{At: 1}, false}, {api.Date{At: -1}, false}, {api.Date{At: low}, false}, {api.Date{At: high}, false}, {api.Date{At: math.MinInt64}, false},
			{api.Date{At: 1 << 32}, false}, {api.Date{At: 256}, false},
			{api.Date{Has: true}, true}, {api.Date{Has: true, At: 1}, true}, {api.Date{Has: true, At: -1}, true},
			{api.Date{Has: true, At: low}, true}, {api.Date{Has: true, At: low + 1}, true}, {api.Date{Has: true, At: low - 1}, false},
			{api.Date{Has: true, At: high}, true}, {api.Date{Has: true, At: high - 1}, true}, {api.Date{Has: true, At: high + 1}, false},
			{api.Date{Has: true, At: math.MaxInt64}, false}, {api.Date{Has: true, At: math.MinInt64}, false}, {api.Date{Has: true, At: math.MinInt64 + 1<<40}, false},
		} {
			what := "date " + strconv.Itoa(i) + " " + strconv.FormatBool(c.date.Has) + " " + strconv.FormatInt(c.date.At, 10)
			checkTurned(t, []turned{{what, func(o *api.Object) { o.Dates[i] = c.date }, c.want}})
		}
	}
}

// No order of dates is asked for.
func TestRightDatesInAnyOrder(t *testing.T) {
	o := plain()
	for i := range o.Dates {
		o.Dates[i] = api.Date{Has: true, At: int64(-1000 * i)}
	}
	checkTaken(t, "falling dates", o, laid(o))
}

func TestRightReason(t *testing.T) {
	for n := -2; n < 12; n++ {
		checkTurned(t, []turned{
			{"Reason " + strconv.Itoa(n) + " without a Message", func(o *api.Object) { o.Reason, o.Message = n, "" }, n >= 0 && n <= 7},
			{"Reason " + strconv.Itoa(n) + " with a Message", func(o *api.Object) { o.Reason, o.Message = n, "m" }, n >= 1 && n <= 7},
		})
	}
	for _, n := range []int{256, 257, 1<<32 + 1, math.MaxInt, math.MinInt, math.MinInt + 1} {
		checkTurned(t, []turned{{"Reason " + strconv.Itoa(n), func(o *api.Object) { o.Reason = n }, false}})
	}
}

func TestRightMessage(t *testing.T) {
	for reason := range 8 {
		message := func(s string) func(o *api.Object) {
			return func(o *api.Object) { o.Reason, o.Message = reason, s }
		}
		may := reason > 0
		checkTurned(t, []turned{
			{"no Message", message(""), true},
			{"a Message of one byte", message("\x00"), may},
			{"a Message of signs", message("gr\u00fcn \U0001f511"), may},
			{"a Message of 120", message(strings.Repeat("é", 60)), may},
			{"a Message of 121", message(strings.Repeat("é", 60) + "a"), false},
			{"a Message of 120 that is no UTF-8", message(letters(119) + "\xc3"), false},
			{"a Message of 376", message(letters(376)), false},
			{"a Message of 65536", message(letters(65536)), false},
			{"a Message that is no UTF-8", message("\xff"), false},
			{"a Message with a surrogate", message("a\xed\xa0\x80"), false},
			{"a Message laid too long", message("\xe0\x80\x80"), false},
		})
	}
}

// three answers lists of three parts, of which one is turned.
func three(turn func(o *api.Object)) func(o *api.Object) {
	return func(o *api.Object) {
		o.Names = []string{"1", "2", "3"}
		o.Links = []api.Link{{Type: 104, Id: "1"}, {Type: 105, Id: "2"}, {Type: 106, Id: "3"}}
		o.Custom = []api.Custom{{Name: "x-1", Text: "1"}, {Name: "x-2", Text: "2"}, {Name: "x-3", Text: "3"}}
		turn(o)
	}
}

// checkThree asks of each case in a list of three.
func checkThree(t *testing.T, all []turned) {
	t.Helper()
	for _, c := range all {
		checkTurned(t, []turned{{c.what, three(c.turn), c.want}})
	}
}

func TestRightListCounts(t *testing.T) {
	for n := range 20 {
		checkTurned(t, []turned{
			{strconv.Itoa(n) + " Names", func(o *api.Object) {
				o.Names = nil
				for i := range n {
					o.Names = append(o.Names, strconv.Itoa(i))
				}
			}, n <= 6},
			{strconv.Itoa(n) + " Links", func(o *api.Object) {
				o.Links = nil
				for i := range n {
					o.Links = append(o.Links, api.Link{Type: 101 + i%10, Id: strconv.Itoa(i)})
				}
			}, n <= 8},
			{strconv.Itoa(n) + " Custom", func(o *api.Object) {
				o.Custom = nil
				for i := range n {
					o.Custom = append(o.Custom, api.Custom{Name: "x-" + strconv.Itoa(i), Text: "a"})
				}
			}, n <= 6},
		})
	}
	// As many as make a count's byte 0 again, and a list that is far too long.
	for _, n := range []int{255, 256, 257, 262, 1 << 20} {
		o := plain()
		o.Names = make([]string, n)
		checkWrong(t, strconv.Itoa(n)+" Names", o)
		o = plain()
		o.Links = make([]api.Link, n)
		checkWrong(t, strconv.Itoa(n)+" Links", o)
		o = plain()
		o.Custom = make([]api.Custom, n)
		checkWrong(t, strconv.Itoa(n)+" Custom", o)
	}
}

func TestRightNames(t *testing.T) {
	for i := range 3 {
		checkThree(t, texts("Name "+strconv.Itoa(i), func(o *api.Object) *string { return &o.Names[i] }))
		for j := range 3 {
			checkThree(t, []turned{{"a Name as another", func(o *api.Object) { o.Names[i] = o.Names[j] }, i == j}})
		}
	}
	checkThree(t, []turned{
		{"one that begins as another", func(o *api.Object) { o.Names[1] = "11" }, true},
		{"one in the other case", func(o *api.Object) { o.Names[1], o.Names[2] = "A", "a" }, true},
		{"one as the Id", func(o *api.Object) { o.Names[1] = o.Id }, true},
		{"one as a custom name", func(o *api.Object) { o.Names[1] = o.Custom[0].Name }, true},
		{"all alike", func(o *api.Object) { o.Names = []string{"a", "a", "a"} }, false},
	})
}

func TestRightLinks(t *testing.T) {
	for i := range 3 {
		checkThree(t, texts("a Link's Id", func(o *api.Object) *string { return &o.Links[i].Id }))
		checkThree(t, numbers("a Link's Type", 101, 110, func(o *api.Object) *int { return &o.Links[i].Type }))
		for j := range 3 {
			checkThree(t, []turned{
				{"a Link as another", func(o *api.Object) { o.Links[i] = o.Links[j] }, i == j},
				{"Links that are alike in their Type", func(o *api.Object) { o.Links[i].Type = o.Links[j].Type }, true},
				{"Links that are alike in their Id", func(o *api.Object) { o.Links[i].Id = o.Links[j].Id }, true},
			})
		}
	}
	checkThree(t, []turned{{"a Link to itself", func(o *api.Object) { o.Links[0].Id = o.Id }, true}})
}

func TestRightCustom(t *testing.T) {
	for i := range 3 {
		checkThree(t, texts("a Custom's Text", func(o *api.Object) *string { return &o.Custom[i].Text }))
		for j := range 3 {
			checkThree(t, []turned{
				{"a Custom as another", func(o *api.Object) { o.Custom[i] = o.Custom[j] }, i == j},
				{"Custom that are alike in their Name", func(o *api.Object) { o.Custom[i].Name = o.Custom[j].Name }, true},
				{"Custom that are alike in their Text", func(o *api.Object) { o.Custom[i].Text = o.Custom[j].Text }, true},
			})
		}
		for name, want := range map[string]bool{
			"x-": true, "x-a": true, "x-\u00e9": true, "x-" + letters(118): true, "x-x-": true, "x-\x00": true,
			"": false, "x": false, "-": false, "X-a": false, "y-a": false, "ax-": false, "a": false, "x-" + letters(119): false, "x-\xff": false, "\xffx-": false, "x-a\xed\xa0\x80": false, " x-a": false,
		} {
			checkThree(t, []turned{{"the custom name " + strconv.Quote(name), func(o *api.Object) { o.Custom[i].Name = name }, want}})
		}
	}
	checkThree(t, []turned{
		{"a Text that is a custom name", func(o *api.Object) { o.Custom[0].Text = "x-1" }, true},
		{"Name and Text that join to the same", func(o *api.Object) {
			o.Custom[0], o.Custom[1] = api.Custom{Name: "x-ab", Text: "c"}, api.Custom{Name: "x-a", Text: "bc"}
		}, true},
	})
}

// limits answers a turn that sets the Limits.
func limits(has bool, total, count int64, unit int) func(o *api.Object) {
	return func(o *api.Object) { o.Limits = api.Limits{Has: has, Total: total, Count: count, Unit: unit} }
}

func TestRightLimits(t *testing.T) {
	checkTurned(t, []turned{
		{"none", limits(false, 0, 0, 0), true},
		{"none with a Total", limits(false, 1, 0, 0), false},
		{"none with a Count", limits(false, 0, 1, 0), false},
		{"none with a Unit", limits(false, 0, 0, 1), false},
		{"none with all", limits(false, 9, 9, 1), false},
		{"none with numbers below 0", limits(false, -1, -1, -1), false},
		{"with nothing", limits(true, 0, 0, 0), false},
		{"Total 0", limits(true, 0, 0, 1), false},
		{"Total below 0", limits(true, -1, 0, 1), false},
		{"Total and Count below 0", limits(true, -1, -1, 1), false},
		{"Total 1", limits(true, 1, 0, 1), true},
		{"Total 1, Count 1", limits(true, 1, 1, 1), true},
		{"Total 1, Count 2", limits(true, 1, 2, 1), false},
		{"Total 2^40", limits(true, high, 0, 2), true},
		{"Total 2^40 - 1", limits(true, high-1, 0, 2), true},
		{"Total 2^40 + 1", limits(true, high+1, 0, 2), false},
		{"Total 2^63 - 1", limits(true, math.MaxInt64, 0, 2), false},
		{"Total -2^63", limits(true, math.MinInt64, 0, 2), false},
		{"Count -1", limits(true, 100, -1, 1), false},
		{"Count 0", limits(true, 100, 0, 1), true},
		{"Count 1", limits(true, 100, 1, 1), true},
		{"Count Total - 1", limits(true, 100, 99, 1), true},
		{"Count Total", limits(true, 100, 100, 1), true},
		{"Count Total + 1", limits(true, 100, 101, 1), false},
		{"Count 2^40", limits(true, high, high, 1), true},
		{"Count 2^40 + 1", limits(true, high, high+1, 1), false},
		{"Count -2^63", limits(true, 100, math.MinInt64, 1), false},
		{"Count 2^63 - 1", limits(true, 100, math.MaxInt64, 1), false},
		{"Unit 2", limits(true, 100, 50, 2), true},
	})
	for _, n := range []int{-1, 0, 3, 4, 257, 1<<32 + 1, math.MaxInt, math.MinInt} {
		checkTurned(t, []turned{{"Unit " + strconv.Itoa(n), limits(true, 100, 50, n), false}})
	}
}

func TestRightArchived(t *testing.T) {
	for _, is := range []bool{true, false} {
		checkTurned(t, []turned{{"Archived " + strconv.FormatBool(is), func(o *api.Object) { o.Archived = is }, true}})
	}
}

// What is right does not hang on the state, the type, or on other fields.
func TestRightFieldsAlone(t *testing.T) {
	for _, kind := range []int{2, 3, 4, 7} {
		for state := 1; state <= 6; state++ {
			for _, archived := range []bool{true, false} {
				for _, o := range bases() {
					o.Type, o.State, o.Archived = kind, state, archived
					checkTaken(t, "type and state", o, laid(o))
				}
			}
		}
	}
}

// One that is wrong in two fields is wrong, whichever they are.
func TestWrongTwice(t *testing.T) {
	wrong := []func(o *api.Object){
		func(o *api.Object) { o.Id = "" },
		func(o *api.Object) { o.Type = 1 },
		func(o *api.Object) { o.Algorithm = 101 },
		func(o *api.Object) { o.Length = -1 },
		func(o *api.Object) { o.Mask = -1 },
		func(o *api.Object) { o.Material = make([]byte, 129) },
		func(o *api.Object) { o.State = 0 },
		func(o *api.Object) { o.Dates[0] = api.Date{At: 1} },
		func(o *api.Object) { o.Dates[9] = api.Date{Has: true, At: high + 1} },
		func(o *api.Object) { o.Reason = 8 },
		func(o *api.Object) { o.Reason, o.Message = 0, "a" },
		func(o *api.Object) { o.Names = make([]string, 7) },
		func(o *api.Object) { o.Names = []string{"a", "a"} },
		func(o *api.Object) { o.Links = []api.Link{{Type: 101}} },
		func(o *api.Object) { o.Custom = []api.Custom{{Name: "x", Text: "a"}} },
		func(o *api.Object) { o.Limits = api.Limits{Total: 1} },
	}
	for i, one := range wrong {
		for j, other := range wrong {
			o := full()
			one(&o)
			other(&o)
			checkWrong(t, strconv.Itoa(i)+" and "+strconv.Itoa(j), o)
			if object.Right(object.Copy(o)) {
				t.Errorf("10.2: %d and %d: the copy is right", i, j)
			}
		}
	}
}
