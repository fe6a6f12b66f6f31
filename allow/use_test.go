package allow_test

import (
	"math"
	"strconv"
	"testing"

	"locksmith/allow"
	"locksmith/api"
)

// fault is something that makes a use be refused, and why.
type fault struct {
	what   string
	reason int
	turn   func(o *api.Object, op *int)
}

// faults are those of a key that is used to protect at 9, in the order in which
// the chapter names their reasons.
func faults() []fault {
	return []fault{
		{"no use of a key", api.Unsupported, func(o *api.Object, op *int) { *op = api.Get }},
		{"archived", api.Archived, func(o *api.Object, op *int) { o.Archived = true }},
		{"no bit", api.Denied, func(o *api.Object, op *int) { o.Mask &^= 4 + 128 }},
		{"a public one", api.Illegal, func(o *api.Object, op *int) { o.Type = api.Public }},
		{"another algorithm", api.Illegal, func(o *api.Object, op *int) { o.Algorithm = 4 }},
		{"a short material", api.Illegal, func(o *api.Object, op *int) { o.Material = o.Material[:15] }},
		{"deactivated", api.Illegal, func(o *api.Object, op *int) { o.State = api.Deactivated }},
		{"not started", api.Illegal, func(o *api.Object, op *int) { o.Dates[api.ProcessStart] = at(10) }},
		{"stopped", api.Illegal, func(o *api.Object, op *int) { o.Dates[api.ProtectStop] = at(9) }},
	}
}

// Each fault alone has its reason; of several, the first that the chapter
// names. Spend tells the same, however much it is asked for.
func TestEverySetOfFaults(t *testing.T) {
	all := faults()
	for set := range 1 << len(all) {
		for _, use := range []int{api.Encrypt, api.Mac} {
			o, op, want, what := full(api.Active), use, api.Fine, ""
			for i, f := range all {
				if set>>i&1 == 0 {
					continue
				}
				f.turn(&o, &op)
				what += f.what + ", "
				if want == api.Fine {
					want = f.reason
				}
			}
			if got := allow.Use(o, op, 9); got != want {
				t.Errorf("12.1: %s operation %d: %d, not %d", what, op, got, want)
			}
			checkUse(t, what, o, op, 9)
			for _, size := range []int{-1, 0, 44, 45} {
				checkSpend(t, what, o, op, size, 9)
			}
		}
	}
}

func TestStatesByHand(t *testing.T) {
	const no = api.Illegal
	for i, want := range [][4]int{
		{no, no, no, no}, // PreActive
		{0, 0, 0, 0},     // Active
		{no, 0, no, 0},   // Deactivated
		{no, 0, no, 0},   // Compromised
		{no, no, no, no}, // Destroyed, with a material for all that
		{no, no, no, no}, // Both
	} {
		for j, op := range four() {
			for _, o := range []api.Object{ofState(i + 1), full(i + 1)} {
				if got := allow.Use(o, op, 9); got != want[j] {
					t.Errorf("12.1: state %d, operation %d: %d, not %d", i+1, op, got, want[j])
				}
			}
		}
	}
}

func TestMoreStates(t *testing.T) {
	for _, state := range states() {
		for _, op := range four() {
			for _, now := range times() {
				checkUse(t, "plain", ofState(state), op, now)
				checkUse(t, "full", full(state), op, now)
			}
		}
	}
	for state := -70000; state <= 70000; state++ {
		o := ofState(state)
		for _, op := range four() {
			if got := allow.Use(o, op, 9); got != mustUse(o, op, 9) {
				t.Fatalf("12.1: state %d, operation %d: %d", state, op, got)
			}
		}
	}
}

// The example of the chapter.
func TestExample(t *testing.T) {
	o := ofState(api.Active)
	o.Mask = 4
	if got := allow.Use(o, api.Encrypt, 9); got != api.Fine {
		t.Errorf("12.1: mask 4, Encrypt: %d", got)
	}
	if got := allow.Use(o, api.Decrypt, 9); got != api.Denied {
		t.Errorf("12.1: mask 4, Decrypt: %d", got)
	}
}

// The bit counts, whatever stands beside it.
func TestMasks(t *testing.T) {
	for _, op := range four() {
		bit := mustBit(op)
		for _, others := range []int{0, 1, 2, 4, 8, 16, 128, 256, 512, api.MaskBits, math.MaxInt, -1, math.MinInt, 1 << 32} {
			o := ofState(api.Active)
			o.Mask = others | bit
			if got := allow.Use(o, op, 9); got != api.Fine {
				t.Errorf("12.1: mask %x, operation %d: %d", o.Mask, op, got)
			}
			o.Mask = others &^ bit
			if got := allow.Use(o, op, 9); got != api.Denied {
				t.Errorf("12.1: mask %x, operation %d: %d", o.Mask, op, got)
			}
		}
		for place := range 64 {
			o := ofState(api.Active)
			o.Mask = 1 << place
			checkUse(t, "one bit", o, op, 9)
			o.Mask = ^o.Mask
			checkUse(t, "all but one", o, op, 9)
		}
		for mask := range 1 << 11 {
			o := ofState(api.Active)
			o.Mask = mask
			checkUse(t, "a mask", o, op, 9)
		}
	}
}

// checkKind holds that the key may be used, or is Illegal, for all four.
func checkKind(t *testing.T, what string, o api.Object, may bool) {
	t.Helper()
	want := api.Illegal
	if may {
		want = api.Fine
	}
	for _, op := range four() {
		if got := allow.Use(o, op, 9); got != want {
			t.Errorf("12.1: %s, operation %d: %d, not %d", what, op, got, want)
		}
	}
}

func TestTypes(t *testing.T) {
	for kind, may := range map[int]bool{
		api.Symmetric: true, api.Public: false, api.Private: false, api.Secret: false,
		0: false, 1: false, 5: false, 6: false, 8: false, -1: false, -2: false, 258: false, 1<<32 + 2: false, math.MaxInt: false, math.MinInt: false,
	} {
		o := ofState(api.Active)
		o.Type = kind
		checkKind(t, "type "+strconv.Itoa(kind), o, may)
	}
}

func TestAlgorithms(t *testing.T) {
	far := []int{-3, -1, 3 + 256, 3 + 65536, 3 + 1<<32, math.MaxInt, math.MinInt}
	for n := range 300 {
		far = append(far, n)
	}
	for _, n := range far {
		o := ofState(api.Active)
		o.Algorithm = n
		checkKind(t, "algorithm "+strconv.Itoa(n), o, n == 3)
	}
}

// The material counts, not the Length that is told.
func TestMaterials(t *testing.T) {
	for n, may := range map[int]bool{
		0: false, 1: false, 8: false, 15: false, 16: true, 17: false, 23: false, 24: true, 25: false, 31: false, 32: true, 33: false,
		48: false, 64: false, 128: false, 192: false, 256: false, 256 + 16: false, 65536 + 24: false,
	} {
		for _, length := range []int{0, 128, 192, 256, -1} {
			o := ofState(api.Active)
			o.Material, o.Length = make([]byte, n), length
			checkKind(t, strconv.Itoa(n)+" bytes", o, may)
		}
	}
	o := ofState(api.Active)
	o.Material = nil
	checkKind(t, "no material", o, false)
	o.Material = make([]byte, 15, 16)
	checkKind(t, "15 bytes and room for one more", o, false)
	o.Material = make([]byte, 16, 17)
	checkKind(t, "16 bytes and room for one more", o, true)
	for n := range 1000 {
		o.Material = make([]byte, n)
		checkUse(t, strconv.Itoa(n)+" bytes", o, api.Mac, 9)
	}
}

// dates are some around a time.
func dates(now int64) []api.Date {
	all := []api.Date{none}
	for _, n := range []int64{now - 1, now, now + 1, now - 100, now + 100, 0, api.MaxTime, -1 << 40, math.MaxInt64, math.MinInt64} {
		all = append(all, at(n), bare(n))
	}
	return all
}

func TestDatesOfEveryState(t *testing.T) {
	for _, state := range states() {
		for _, now := range times() {
			for _, start := range dates(now) {
				for _, stop := range dates(now) {
					o := ofState(state)
					o.Dates[api.ProcessStart], o.Dates[api.ProtectStop] = start, stop
					for _, op := range four() {
						checkUse(t, "dates", o, op, now)
					}
				}
			}
		}
		if t.Failed() {
			return
		}
	}
}

func TestDatesByHand(t *testing.T) {
	const no = api.Illegal
	for _, c := range []struct {
		what        string
		state       int
		start, stop api.Date
		want        [4]int // of Encrypt, Decrypt, Mac, MacVerify, at 9
	}{
		{"none", api.Active, none, none, [4]int{0, 0, 0, 0}},
		{"it starts one behind now", api.Active, at(10), none, [4]int{no, no, no, no}},
		{"it starts now", api.Active, at(9), none, [4]int{0, 0, 0, 0}},
		{"it started one ahead of now", api.Active, at(8), none, [4]int{0, 0, 0, 0}},
		{"it stops one behind now", api.Active, none, at(10), [4]int{0, 0, 0, 0}},
		{"it stops now", api.Active, none, at(9), [4]int{no, 0, no, 0}},
		{"it stopped one ahead of now", api.Active, none, at(8), [4]int{no, 0, no, 0}},
		{"between both", api.Active, at(9), at(10), [4]int{0, 0, 0, 0}},
		{"it stops and starts now", api.Active, at(9), at(9), [4]int{no, 0, no, 0}},
		{"it stopped, and starts then", api.Active, at(10), at(8), [4]int{no, no, no, no}},
		{"it starts, and stops then", api.Active, at(10), at(11), [4]int{no, no, no, no}},
		{"a start that is none", api.Active, bare(10), none, [4]int{0, 0, 0, 0}},
		{"a stop that is none", api.Active, none, bare(9), [4]int{0, 0, 0, 0}},
		{"a stop of 0 that is none", api.Active, none, bare(0), [4]int{0, 0, 0, 0}},
		{"a stop of 0", api.Active, none, at(0), [4]int{no, 0, no, 0}},
		{"a start below 0", api.Active, at(-9), none, [4]int{0, 0, 0, 0}},
		{"a stop below 0", api.Active, none, at(-9), [4]int{no, 0, no, 0}},
		{"deactivated ahead of its start", api.Deactivated, at(10), none, [4]int{no, 0, no, 0}},
		{"deactivated behind its stop", api.Deactivated, none, at(8), [4]int{no, 0, no, 0}},
		{"deactivated between both", api.Deactivated, at(8), at(10), [4]int{no, 0, no, 0}},
		{"deactivated, stopped, not started", api.Deactivated, at(10), at(8), [4]int{no, 0, no, 0}},
		{"compromised ahead of its start", api.Compromised, at(10), none, [4]int{no, 0, no, 0}},
		{"compromised behind its stop", api.Compromised, none, at(8), [4]int{no, 0, no, 0}},
		{"compromised between both", api.Compromised, at(8), at(10), [4]int{no, 0, no, 0}},
		{"not active yet, between both", api.PreActive, at(8), at(10), [4]int{no, no, no, no}},
		{"destroyed, between both", api.Destroyed, at(8), at(10), [4]int{no, no, no, no}},
		{"both, between both", api.Both, at(8), at(10), [4]int{no, no, no, no}},
	} {
		o := full(c.state)
		o.Dates[api.ProcessStart], o.Dates[api.ProtectStop] = c.start, c.stop
		for i, op := range four() {
			if got := allow.Use(o, op, 9); got != c.want[i] {
				t.Errorf("12.1: %s: operation %d: %d, not %d", c.what, op, got, c.want[i])
			}
		}
	}
}

// No other date counts: what time would do to the object is Move's alone.
func TestOtherDatesDoNotCount(t *testing.T) {
	for date := range api.DateCount {
		if date == api.ProcessStart || date == api.ProtectStop {
			continue
		}
		for _, state := range states() {
			for _, d := range dates(9) {
				o := ofState(state)
				o.Dates[date] = d
				for _, op := range four() {
					if got := allow.Use(o, op, 9); got != allow.Use(ofState(state), op, 9) {
						t.Errorf("12.1: state %d, date %d %+v: operation %d: %d", state, date, d, op, got)
					}
				}
			}
		}
	}
}

// What is left of its limits is Spend's to ask; nothing else of the object
// counts either.
func TestTheRestDoesNotCount(t *testing.T) {
	for i, turn := range []func(o *api.Object){
		func(o *api.Object) { o.Limits = api.Limits{Has: true, Total: 1, Unit: 1} },
		func(o *api.Object) { o.Limits = api.Limits{Has: true, Count: -1, Unit: 9} },
		func(o *api.Object) { o.Id = "" },
		func(o *api.Object) { o.Id = letters(999) + "\xff" },
		func(o *api.Object) { o.Length = -1 },
		func(o *api.Object) { o.Reason, o.Message = 2, "" },
		func(o *api.Object) { o.Reason, o.Message = 0, "m" },
		func(o *api.Object) { o.Names, o.Links, o.Custom = nil, nil, nil },
		func(o *api.Object) { o.Names, o.Links = make([]string, 99), make([]api.Link, 99) },
		func(o *api.Object) { o.Custom = make([]api.Custom, 99) },
	} {
		for _, state := range states() {
			o := full(state)
			turn(&o)
			for _, op := range four() {
				if got := allow.Use(o, op, 9); got != allow.Use(full(state), op, 9) {
					t.Errorf("12.1: %d: state %d, operation %d: %d", i, state, op, got)
				}
			}
		}
	}
}
