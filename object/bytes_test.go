package object_test

import (
	"bytes"
	"encoding/binary"
	"slices"
	"strconv"
	"strings"
	"testing"

	"locksmith/api"
	"locksmith/object"
)

// dates answers the ten dates' bytes in hex, of which one is there.
func dates(which int, at string) string {
	var b strings.Builder
	for i := range 10 {
		if i == which {
			b.WriteString("01" + at)
		} else {
			b.WriteString("00")
		}
	}
	return b.String()
}

// handLaid are objects and their bytes as one lays them by hand.
func handLaid() []struct {
	what string
	turn func(*api.Object)
	want string
} {
	none := dates(-1, "")
	const front, id = "0001 78 07", "0001 78"
	const numbers = "00 00000000 00000000"
	return []struct {
		what string
		turn func(*api.Object)
		want string
	}{
		{"nothing", func(o *api.Object) {}, front + numbers + "0000 01" + none + "00 0000 00 00 00 00 00"},
		{"Id", func(o *api.Object) { o.Id = "10é" }, "0004 3130c3a9 07" + numbers + "0000 01" + none + "00 0000 00 00 00 00 00"},
		{"Type", func(o *api.Object) { o.Type = api.Symmetric }, id + "02" + numbers + "0000 01" + none + "00 0000 00 00 00 00 00"},
		{"Algorithm", func(o *api.Object) { o.Algorithm = 100 }, front + "64 00000000 00000000" + "0000 01" + none + "00 0000 00 00 00 00 00"},
		{"Length", func(o *api.Object) { o.Length = 100000 }, front + "00 000186a0 00000000" + "0000 01" + none + "00 0000 00 00 00 00 00"},
		{"Mask", func(o *api.Object) { o.Mask = 0xfedcb }, front + "00 00000000 000fedcb" + "0000 01" + none + "00 0000 00 00 00 00 00"},
		{"Material", func(o *api.Object) { o.Material = []byte{0xff, 0, 1} }, front + numbers + "0003 ff0001 01" + none + "00 0000 00 00 00 00 00"},
		{"State", func(o *api.Object) { o.State = api.Compromised }, front + numbers + "0000 04" + none + "00 0000 00 00 00 00 00"},
		{"Initial", func(o *api.Object) { o.Dates[api.Initial] = api.Date{Has: true, At: 0x0102030405} }, front + numbers + "0000 01" + dates(0, "0000000102030405") + "00 0000 00 00 00 00 00"},
		{"Activation", func(o *api.Object) { o.Dates[api.Activation] = api.Date{Has: true} }, front + numbers + "0000 01" + dates(1, "0000000000000000") + "00 0000 00 00 00 00 00"},
		{"ProcessStart", func(o *api.Object) { o.Dates[api.ProcessStart] = api.Date{Has: true, At: -1} }, front + numbers + "0000 01" + dates(2, "ffffffffffffffff") + "00 0000 00 00 00 00 00"},
		{"ProtectStop", func(o *api.Object) { o.Dates[api.ProtectStop] = api.Date{Has: true, At: low} }, front + numbers + "0000 01" + dates(3, "ffffff0000000000") + "00 0000 00 00 00 00 00"},
		{"Deactivation", func(o *api.Object) { o.Dates[api.Deactivation] = api.Date{Has: true, At: high} }, front + numbers + "0000 01" + dates(4, "0000010000000000") + "00 0000 00 00 00 00 00"},
		{"DestroyDate", func(o *api.Object) { o.Dates[api.DestroyDate] = api.Date{Has: true, At: 5} }, front + numbers + "0000 01" + dates(5, "0000000000000005") + "00 0000 00 00 00 00 00"},
		{"Occurrence", func(o *api.Object) { o.Dates[api.Occurrence] = api.Date{Has: true, At: 6} }, front + numbers + "0000 01" + dates(6, "0000000000000006") + "00 0000 00 00 00 00 00"},
		{"CompromiseDate", func(o *api.Object) { o.Dates[api.CompromiseDate] = api.Date{Has: true, At: 7} }, front + numbers + "0000 01" + dates(7, "0000000000000007") + "00 0000 00 00 00 00 00"},
		{"ArchiveDate", func(o *api.Object) { o.Dates[api.ArchiveDate] = api.Date{Has: true, At: 8} }, front + numbers + "0000 01" + dates(8, "0000000000000008") + "00 0000 00 00 00 00 00"},
		{"LastChange", func(o *api.Object) { o.Dates[api.LastChange] = api.Date{Has: true, At: 1 << 32} }, front + numbers + "0000 01" + dates(9, "0000000100000000") + "00 0000 00 00 00 00 00"},
		{"Reason", func(o *api.Object) { o.Reason = 7 }, front + numbers + "0000 01" + none + "07 0000 00 00 00 00 00"},
		{"Message", func(o *api.Object) { o.Reason, o.Message = 1, "ab" }, front + numbers + "0000 01" + none + "01 0002 6162 00 00 00 00 00"},
		{"a Name", func(o *api.Object) { o.Names = []string{"a"} }, front + numbers + "0000 01" + none + "00 0000 01 0001 61 00 00 00 00"},
		{"Names", func(o *api.Object) { o.Names = []string{"b", "ac"} }, front + numbers + "0000 01" + none + "00 0000 02 0001 62 0002 6163 00 00 00 00"},
		{"a Link", func(o *api.Object) { o.Links = []api.Link{{Type: 101, Id: "7"}} }, front + numbers + "0000 01" + none + "00 0000 00 01 65 0001 37 00 00 00"},
		{"Links", func(o *api.Object) { o.Links = []api.Link{{Type: 110, Id: "10"}, {Type: 102, Id: "9"}} }, front + numbers + "0000 01" + none + "00 0000 00 02 6e 0002 3130 66 0001 39 00 00 00"},
		{"a Custom", func(o *api.Object) { o.Custom = []api.Custom{{Name: "x-", Text: "v"}} }, front + numbers + "0000 01" + none + "00 0000 00 00 01 0002 782d 0001 76 00 00"},
		{"Custom", func(o *api.Object) { o.Custom = []api.Custom{{Name: "x-b", Text: "v"}, {Name: "x-a", Text: "vw"}} }, front + numbers + "0000 01" + none + "00 0000 00 00 02 0003 782d62 0001 76 0003 782d61 0002 7677 00 00"},
		{"Limits", limits(true, high, 0x0102030405, 2), front + numbers + "0000 01" + none + "00 0000 00 00 00 01 0000010000000000 0000000102030405 02 00"},
		{"Limits of nothing left", limits(true, 1, 0, 1), front + numbers + "0000 01" + none + "00 0000 00 00 00 01 0000000000000001 0000000000000000 01 00"},
		{"Archived", func(o *api.Object) { o.Archived = true }, front + numbers + "0000 01" + none + "00 0000 00 00 00 00 01"},
	}
}

func TestLayByHand(t *testing.T) {
	for _, c := range handLaid() {
		o := plain()
		c.turn(&o)
		checkTaken(t, c.what, o, raw(t, c.want))
	}
}

// An object with all parts, by hand.
func TestLayFull(t *testing.T) {
	checkTaken(t, "full", full(), raw(t, `
		0005 6772c3bc6e 02 03 00000102 000a0b0c 0004 0900ff07 06
		01 0000000000000001 01 0000000000000020 01 0000000000000300 01 0000000000004000 01 fffffffffffffffe
		01 0000000000600000 01 0000000007000000 01 0000000080000000 01 0000000900000000 01 000000a000000000
		05 0003 776879
		03 0002 6162 0001 61 0001 62
		03 65 0001 38 6e 0001 38 65 0001 39
		03 0003 782d61 0001 31 0003 782d62 0001 31 0003 782d61 0001 32
		01 0000000001020304 0000000000000506 02
		01`))
}

// The longest object, whose parts are all as great as may be.
func TestLayMost(t *testing.T) {
	b, e := object.Lay(most())
	if e != api.OK || !bytes.Equal(b, laid(most())) {
		t.Errorf("10.2: Lay: %d, %x", e, b)
	}
	want := 122 + 1 + 1 + 4 + 4 + 130 + 1 + 10*9 + 1 + 122 + 1 + 6*122 + 1 + 8*123 + 1 + 6*(122+122) + 18 + 1
	if len(b) != want {
		t.Errorf("10.2: %d bytes, want %d", len(b), want)
	}
	checkTaken(t, "most", most(), b)
}

func TestReadNothing(t *testing.T) {
	checkRefused(t, "nil", nil)
	checkRefused(t, "no bytes", []byte{})
	for n := range 2000 {
		checkRefused(t, strconv.Itoa(n)+" 0s", make([]byte, n))
		checkRefused(t, strconv.Itoa(n)+" bytes 255", bytes.Repeat([]byte{255}, n))
	}
	checkRefused(t, "very many bytes", bytes.Repeat([]byte{1}, 1<<22))
}

// Every beginning, and what has more behind it.
func TestReadCut(t *testing.T) {
	for _, o := range bases() {
		b := laid(o)
		for n := range b {
			checkRefused(t, strconv.Itoa(n)+" of "+strconv.Itoa(len(b)), b[:n])
			checkRefused(t, "behind the first", b[n+1:])
			checkRefused(t, "without one byte", slices.Delete(bytes.Clone(b), n, n+1))
		}
		for n := range 256 {
			checkRefused(t, "one more", append(bytes.Clone(b), byte(n)))
		}
		checkRefused(t, "twice", append(bytes.Clone(b), b...))
		checkRefused(t, "0s behind", append(bytes.Clone(b), make([]byte, 1000)...))
	}
}

// Each byte turned into each other: refused, or just what another is laid as.
func TestReadTurned(t *testing.T) {
	taken := 0
	for _, o := range []api.Object{plain(), full()} {
		b := laid(o)
		for i := range b {
			for n := range 256 {
				x := bytes.Clone(b)
				x[i] = byte(n)
				if compare(t, "byte "+strconv.Itoa(i)+" as "+strconv.Itoa(n), x) {
					taken++
				}
			}
		}
	}
	if taken < 1000 {
		t.Errorf("%d were taken", taken)
	}
}

// A byte put in at each place.
func TestReadLonger(t *testing.T) {
	for _, o := range []api.Object{plain(), full()} {
		b := laid(o)
		for i := range b {
			for _, n := range []byte{0, 1, 2, 97, 128, 255} {
				compare(t, "a byte put in at "+strconv.Itoa(i), slices.Insert(bytes.Clone(b), i, n))
			}
		}
	}
}

// flags are the places of plain's bytes that tell whether something is there.
func flags() map[int]string {
	all := map[int]string{31: "Limits", 32: "Archived"}
	for i := range 10 {
		all[16+i] = "date " + strconv.Itoa(i)
	}
	return all
}

func TestReadFlags(t *testing.T) {
	for at, what := range flags() {
		for n := 2; n < 256; n++ {
			b := laid(plain())
			b[at] = byte(n)
			checkRefused(t, what+" "+strconv.Itoa(n), b)
			// Nor with what would stand behind a 1.
			for _, more := range []int{8, 17} {
				behind := append(make([]byte, more-1, more), 1)
				checkRefused(t, what+" "+strconv.Itoa(n)+" with bytes behind", slices.Insert(b, at+1, behind...))
			}
		}
	}
}

// wide answers plain's bytes with a number turned at a place.
func wide(at int, n uint64, width int) []byte {
	b := laid(plain())
	copy(b[at:at+width], binary.BigEndian.AppendUint64(nil, n)[8-width:])
	return b
}

func TestReadNumbersBeyond(t *testing.T) {
	for _, c := range []struct {
		what      string
		at, width int
		wrong     []uint64
	}{
		{"Type", 3, 1, []uint64{0, 1, 5, 6, 8, 255}},
		{"Algorithm", 4, 1, []uint64{101, 128, 255}},
		{"Length", 5, 4, []uint64{100001, 1 << 17, 1 << 31, 1<<32 - 1}},
		{"Mask", 9, 4, []uint64{1 << 20, 1 << 31, 1<<32 - 1}},
		{"State", 15, 1, []uint64{0, 7, 255}},
		{"Reason", 26, 1, []uint64{8, 255}},
		{"a Message's length", 27, 2, []uint64{1, 5, 6, 121, 65535}},
		{"Names", 29, 1, []uint64{1, 2, 7, 255}},
		{"Links", 30, 1, []uint64{1, 9, 255}},
	} {
		for _, n := range c.wrong {
			checkRefused(t, c.what+" "+strconv.FormatUint(n, 10), wide(c.at, n, c.width))
		}
	}
}

// wrongObjects are objects that are not right, but whose bytes can be laid.
func wrongObjects() []turned {
	return []turned{
		{"no Id", func(o *api.Object) { o.Id = "" }, false},
		{"an Id that is too long", func(o *api.Object) { o.Id = letters(121) }, false},
		{"an Id that is no UTF-8", func(o *api.Object) { o.Id = "\xff" }, false},
		{"Material that is too long", func(o *api.Object) { o.Material = make([]byte, 129) }, false},
		{"Material of 65535", func(o *api.Object) { o.Material = make([]byte, 65535) }, false},
		{"a date that is too early", func(o *api.Object) { o.Dates[0] = api.Date{Has: true, At: low - 1} }, false},
		{"a date that is too late", func(o *api.Object) { o.Dates[9] = api.Date{Has: true, At: high + 1} }, false},
		{"a date of 2^63 - 1", func(o *api.Object) { o.Dates[5] = api.Date{Has: true, At: 1<<63 - 1} }, false},
		{"a date of -2^63", func(o *api.Object) { o.Dates[5] = api.Date{Has: true, At: -1 << 63} }, false},
		{"a Message without a Reason", func(o *api.Object) { o.Reason, o.Message = 0, "a" }, false},
		{"a Message that is too long", func(o *api.Object) { o.Reason, o.Message = 1, letters(121) }, false},
		{"a Message that is no UTF-8", func(o *api.Object) { o.Reason, o.Message = 1, "\xc3" }, false},
		{"seven Names", func(o *api.Object) { o.Names = strings.Split("1234567", "") }, false},
		{"255 Names", func(o *api.Object) { o.Names = strings.Split(strings.Repeat("1", 255), "") }, false},
		{"a Name twice", func(o *api.Object) { o.Names = []string{"a", "b", "a"} }, false},
		{"an empty Name", func(o *api.Object) { o.Names = []string{"a", ""} }, false},
		{"a Name that is too long", func(o *api.Object) { o.Names = []string{letters(121)} }, false},
		{"a Name that is no UTF-8", func(o *api.Object) { o.Names = []string{"\xed\xa0\x80"} }, false},
		{"nine Links", func(o *api.Object) {
			o.Links = nil
			for i := range 9 {
				o.Links = append(o.Links, api.Link{Type: 101 + i, Id: "1"})
			}
		}, false},
		{"a Link twice", func(o *api.Object) { o.Links = []api.Link{{Type: 101, Id: "1"}, {Type: 101, Id: "1"}} }, false},
		{"a Link of Type 100", func(o *api.Object) { o.Links = []api.Link{{Type: 100, Id: "1"}} }, false},
		{"a Link of Type 111", func(o *api.Object) { o.Links = []api.Link{{Type: 111, Id: "1"}} }, false},
		{"a Link without an Id", func(o *api.Object) { o.Links = []api.Link{{Type: 101}} }, false},
		{"a Link with an Id that is too long", func(o *api.Object) { o.Links = []api.Link{{Type: 101, Id: letters(121)}} }, false},
		{"seven Custom", func(o *api.Object) {
			o.Custom = nil
			for i := range 7 {
				o.Custom = append(o.Custom, api.Custom{Name: "x-" + letters(i), Text: "1"})
			}
		}, false},
		{"a Custom twice", func(o *api.Object) { o.Custom = []api.Custom{{Name: "x-", Text: "1"}, {Name: "x-", Text: "1"}} }, false},
		{"a Custom without x-", func(o *api.Object) { o.Custom = []api.Custom{{Name: "y-", Text: "1"}} }, false},
		{"a Custom without a Text", func(o *api.Object) { o.Custom = []api.Custom{{Name: "x-"}} }, false},
		{"a Custom without a Name", func(o *api.Object) { o.Custom = []api.Custom{{Text: "a"}} }, false},
		{"a Custom with a Text that is too long", func(o *api.Object) { o.Custom = []api.Custom{{Name: "x-", Text: letters(121)}} }, false},
		{"a Custom with a Name that is too long", func(o *api.Object) { o.Custom = []api.Custom{{Name: "x-" + letters(119), Text: "a"}} }, false},
		{"Limits without a Total", limits(true, 0, 0, 1), false},
		{"Limits with a Total that is too great", limits(true, high+1, 0, 1), false},
		{"Limits with a Total below 0", limits(true, -1, -1, 1), false},
		{"Limits with a Count below 0", limits(true, 5, -1, 1), false},
		{"Limits with a Count above Total", limits(true, 5, 6, 1), false},
		{"Limits with Unit 0", limits(true, 5, 5, 0), false},
		{"Limits with Unit 3", limits(true, 5, 5, 3), false},
		{"Limits with Unit 255", limits(true, 5, 5, 255), false},
	}
}

func TestReadWhatIsNotRight(t *testing.T) {
	for _, c := range wrongObjects() {
		for _, o := range bases() {
			c.turn(&o)
			checkRefused(t, c.what, laid(o))
			checkWrong(t, c.what, o)
		}
	}
}

// A count that is less, or more, than the parts that stand there.
func TestReadCounts(t *testing.T) {
	o := plain()
	o.Names = []string{"a", "b"}
	o.Links = []api.Link{{Type: 101, Id: "1"}, {Type: 102, Id: "1"}}
	o.Custom = []api.Custom{{Name: "x-a", Text: "1"}, {Name: "x-b", Text: "1"}}
	b := laid(o)
	for _, at := range []int{29, 29 + 1 + 6, 29 + 1 + 6 + 1 + 8} {
		if b[at] != 2 {
			t.Fatalf("no count stands at %d", at)
		}
		for n := range 256 {
			x := bytes.Clone(b)
			x[at] = byte(n)
			if n != 2 {
				checkRefused(t, "a count of "+strconv.Itoa(n)+" at "+strconv.Itoa(at), x)
			}
		}
	}
}
