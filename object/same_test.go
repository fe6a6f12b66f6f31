package object_test

import (
	"math"
	"slices"
	"strconv"
	"testing"

	"locksmith/api"
	"locksmith/object"
)

// checkSame asks Same both ways round.
func checkSame(t *testing.T, what string, a, b api.Object, want bool) {
	t.Helper()
	if alike(a, b) != want {
		t.Fatalf("%s: the test's own rules say %v", what, !want)
	}
	if object.Same(a, b) != want || object.Same(b, a) != want {
		t.Errorf("10.2: %s: Same is not %v", what, want)
	}
	if !object.Same(a, a) || !object.Same(b, b) {
		t.Errorf("10.2: %s: an object is not the same as itself", what)
	}
}

// differences are turns of one field alone, each into what full has not.
func differences() map[string]func(*api.Object) {
	all := map[string]func(*api.Object){
		"Id":                       func(o *api.Object) { o.Id += "a" },
		"Id, no":                   func(o *api.Object) { o.Id = "" },
		"Id's case":                func(o *api.Object) { o.Id = "Grün" },
		"Type":                     func(o *api.Object) { o.Type++ },
		"Type by 2^32":             func(o *api.Object) { o.Type += 1 << 32 },
		"Algorithm":                func(o *api.Object) { o.Algorithm++ },
		"Algorithm by 256":         func(o *api.Object) { o.Algorithm += 256 },
		"Length":                   func(o *api.Object) { o.Length++ },
		"Length by 2^32":           func(o *api.Object) { o.Length += 1 << 32 },
		"Mask":                     func(o *api.Object) { o.Mask ^= 1 },
		"Mask by 2^32":             func(o *api.Object) { o.Mask += 1 << 32 },
		"Material's first":         func(o *api.Object) { o.Material[0] ^= 1 },
		"Material's last":          func(o *api.Object) { o.Material[3] ^= 128 },
		"Material, less":           func(o *api.Object) { o.Material = o.Material[:3] },
		"Material, less in front":  func(o *api.Object) { o.Material = o.Material[1:] },
		"Material, more":           func(o *api.Object) { o.Material = append(slices.Clone(o.Material), 0) },
		"Material, none":           func(o *api.Object) { o.Material = nil },
		"State":                    func(o *api.Object) { o.State-- },
		"State by 256":             func(o *api.Object) { o.State += 256 },
		"Reason":                   func(o *api.Object) { o.Reason++ },
		"Reason, none":             func(o *api.Object) { o.Reason = 0 },
		"Message":                  func(o *api.Object) { o.Message = "who" },
		"Message, none":            func(o *api.Object) { o.Message = "" },
		"Names, first":             func(o *api.Object) { o.Names[0] = "z" },
		"Names, last":              func(o *api.Object) { o.Names[2] = "z" },
		"Names, less":              func(o *api.Object) { o.Names = o.Names[:2] },
		"Names, less in front":     func(o *api.Object) { o.Names = o.Names[1:] },
		"Names, more":              func(o *api.Object) { o.Names = append(o.Names, "") },
		"Names, order":             func(o *api.Object) { o.Names[0], o.Names[1] = o.Names[1], o.Names[0] },
		"Names, joined otherwise":  func(o *api.Object) { o.Names = []string{"a", "ba", "b"} },
		"Names, none":              func(o *api.Object) { o.Names = nil },
		"Links, first Type":        func(o *api.Object) { o.Links[0].Type++ },
		"Links, last Type":         func(o *api.Object) { o.Links[2].Type += 256 },
		"Links, first Id":          func(o *api.Object) { o.Links[0].Id = "z" },
		"Links, last Id":           func(o *api.Object) { o.Links[2].Id = "" },
		"Links, less":              func(o *api.Object) { o.Links = o.Links[:2] },
		"Links, more":              func(o *api.Object) { o.Links = append(o.Links, api.Link{}) },
		"Links, order":             func(o *api.Object) { o.Links[0], o.Links[1] = o.Links[1], o.Links[0] },
		"Links, none":              func(o *api.Object) { o.Links = nil },
		"Custom, first Name":       func(o *api.Object) { o.Custom[0].Name = "x-z" },
		"Custom, last Name":        func(o *api.Object) { o.Custom[2].Name = "x-z" },
		"Custom, first Text":       func(o *api.Object) { o.Custom[0].Text = "z" },
		"Custom, last Text":        func(o *api.Object) { o.Custom[2].Text = "" },
		"Custom, less":             func(o *api.Object) { o.Custom = o.Custom[:2] },
		"Custom, more":             func(o *api.Object) { o.Custom = append(o.Custom, api.Custom{}) },
		"Custom, order":            func(o *api.Object) { o.Custom[0], o.Custom[1] = o.Custom[1], o.Custom[0] },
		"Custom, joined otherwise": func(o *api.Object) { o.Custom[0] = api.Custom{Name: "x-", Text: "a1"} },
		"Custom, none":             func(o *api.Object) { o.Custom = nil },
		"Limits, Has":              func(o *api.Object) { o.Limits.Has = false },
		"Limits, Total":            func(o *api.Object) { o.Limits.Total++ },
		"Limits, Count":            func(o *api.Object) { o.Limits.Count++ },
		"Limits, Unit":             func(o *api.Object) { o.Limits.Unit-- },
		"Limits, none":             func(o *api.Object) { o.Limits = api.Limits{} },
		"Archived":                 func(o *api.Object) { o.Archived = !o.Archived },
	}
	for i := range api.DateCount {
		n := strconv.Itoa(i)
		all["date "+n+", Has"] = func(o *api.Object) { o.Dates[i].Has = !o.Dates[i].Has }
		all["date "+n+", At"] = func(o *api.Object) { o.Dates[i].At++ }
		all["date "+n+", a great At"] = func(o *api.Object) { o.Dates[i].At += 1 << 40 }
		all["date "+n+", none"] = func(o *api.Object) { o.Dates[i] = api.Date{} }
	}
	return all
}

func TestSameInAllButOne(t *testing.T) {
	checkSame(t, "two alike", full(), full(), true)
	for what, turn := range differences() {
		o := full()
		turn(&o)
		checkSame(t, what, full(), o, false)
		x := full()
		turn(&x)
		checkSame(t, what+", both", o, x, true)
		checkSame(t, what+", against its copy", o, object.Copy(o), true)
		checkSame(t, what+", a copy against the one it was made of", full(), object.Copy(o), false)
	}
}

// Two objects that differ in what the other one has not are not the same.
func TestSameOfEach(t *testing.T) {
	all := []api.Object{{}, plain(), full(), most()}
	for _, c := range handLaid() {
		o := plain()
		c.turn(&o)
		all = append(all, o)
	}
	for i, a := range all {
		for j, b := range all {
			checkSame(t, strconv.Itoa(i)+" and "+strconv.Itoa(j), a, b, alike(a, b))
		}
	}
}

func TestSameOfEmptyLists(t *testing.T) {
	empty := plain()
	empty.Material, empty.Names, empty.Links, empty.Custom = []byte{}, []string{}, []api.Link{}, []api.Custom{}
	checkSame(t, "nil and empty", plain(), empty, true)
	roomy := plain()
	roomy.Material, roomy.Names, roomy.Links, roomy.Custom = make([]byte, 0, 9), make([]string, 0, 9), make([]api.Link, 0, 9), make([]api.Custom, 0, 9)
	checkSame(t, "nil and empty with room", plain(), roomy, true)
	checkTaken(t, "empty", empty, laid(plain()))
	checkTaken(t, "empty with room", roomy, laid(plain()))
	checkSame(t, "one that is not empty", empty, full(), false)
	checkSame(t, "a copy of empty lists", plain(), object.Copy(empty), true)
	checkSame(t, "a copy of nil", empty, object.Copy(plain()), true)
	wrong := api.Object{Material: []byte{}, Names: []string{}, Links: []api.Link{}, Custom: []api.Custom{}}
	checkSame(t, "nil and empty of what is not right", api.Object{}, wrong, true)
}

// What is not right may be asked, too.
func TestSameOfWhatIsNotRight(t *testing.T) {
	for _, c := range wrongObjects() {
		for i, o := range bases() {
			c.turn(&o)
			checkSame(t, c.what, o, bases()[i], false)
			x := bases()[i]
			c.turn(&x)
			checkSame(t, c.what+", both", o, x, true)
			checkSame(t, c.what+", its copy", o, object.Copy(x), true)
		}
	}
	odd := api.Object{
		Id: "\xff", Type: -1, Algorithm: math.MaxInt, Length: math.MinInt, Mask: -1, Material: make([]byte, 1<<17), State: 99, Reason: -9, Message: letters(1 << 17),
		Names: []string{"", "", "\xff"}, Links: make([]api.Link, 1000), Custom: make([]api.Custom, 1000), Limits: api.Limits{Total: -1, Count: 5, Unit: 9},
	}
	odd.Dates[3] = api.Date{At: math.MinInt64}
	checkSame(t, "odd", odd, object.Copy(odd), true)
	other := object.Copy(odd)
	other.Links[999].Type = 1
	checkSame(t, "odd, the last Link", odd, other, false)
	other = object.Copy(odd)
	other.Names[2] = "\xfe"
	checkSame(t, "odd, bytes that are no sign", odd, other, false)
	other = object.Copy(odd)
	other.Names[2] = "\ufffd"
	checkSame(t, "odd, the sign of what is none", odd, other, false)
	other = object.Copy(odd)
	other.Dates[3].At++
	checkSame(t, "odd, an At without Has", odd, other, false)
	other = object.Copy(odd)
	other.Limits.Count++
	checkSame(t, "odd, a Count without Has", odd, other, false)
}
