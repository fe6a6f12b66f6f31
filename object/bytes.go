package object

import (
	"bytes"

	"locksmith/api"
	"locksmith/octet"
)

// writer lays parts of an object.
type writer struct{ *octet.Writer }

// reader takes them back. It takes what it is given for good: what can't be
// so is found where the object is laid again.
type reader struct{ *octet.Reader }

// Lay answers the object as bytes.
func Lay(o api.Object) ([]byte, api.Errno) {
	if !Right(o) {
		return nil, api.ErrArg
	}
	w := writer{octet.NewWriter()}
	w.object(o)
	return w.Bytes(), api.OK
}

// Read answers the object that is laid as b. Only of what Lay answers can it
// be that an object is laid as b again.
func Read(b []byte) (api.Object, api.Errno) {
	o := reader{octet.NewReader(b)}.object()
	again, e := Lay(o)
	if e != api.OK || !bytes.Equal(again, b) {
		return api.Object{}, api.ErrForm
	}
	return o, api.OK
}

func (w writer) object(o api.Object) {
	w.text(o.Id)
	w.U8(o.Type)
	w.U8(o.Algorithm)
	w.U32(int64(o.Length))
	w.U32(int64(o.Mask))
	w.Short(o.Material)
	w.U8(o.State)
	for _, d := range o.Dates {
		w.date(d)
	}
	w.U8(o.Reason)
	w.text(o.Message)
	layAll(w, o.Names, w.text)
	layAll(w, o.Links, w.link)
	layAll(w, o.Custom, w.custom)
	w.limits(o.Limits)
	w.flag(o.Archived)
}

func (r reader) object() api.Object {
	var o api.Object
	o.Id = r.text()
	o.Type = r.U8()
	o.Algorithm = r.U8()
	o.Length = int(r.U32())
	o.Mask = int(r.U32())
	o.Material = r.Short()
	o.State = r.U8()
	for i := range o.Dates {
		o.Dates[i] = r.date()
	}
	o.Reason = r.U8()
	o.Message = r.text()
	o.Names = takeAll(r, r.text)
	o.Links = takeAll(r, r.link)
	o.Custom = takeAll(r, r.custom)
	o.Limits = r.limits()
	o.Archived = r.flag()
	return o
}

// layAll lays how many parts there are, and each.
func layAll[T any](w writer, all []T, lay func(T)) {
	w.U8(len(all))
	for _, part := range all {
		lay(part)
	}
}

// takeAll takes how many parts there are, and each.
func takeAll[T any](r reader, take func() T) []T {
	var all []T
	for range r.U8() {
		all = append(all, take())
	}
	return all
}

func (w writer) flag(is bool) {
	if is {
		w.U8(1)
	} else {
		w.U8(0)
	}
}

func (r reader) flag() bool { return r.U8() == 1 }

func (w writer) text(s string) { w.Short([]byte(s)) }

func (r reader) text() string { return string(r.Short()) }

func (w writer) date(d api.Date) {
	w.flag(d.Has)
	if d.Has {
		w.U64(uint64(d.At))
	}
}

func (r reader) date() api.Date {
	if !r.flag() {
		return api.Date{}
	}
	return api.Date{Has: true, At: int64(r.U64())}
}

func (w writer) link(l api.Link) {
	w.U8(l.Type)
	w.text(l.Id)
}

func (r reader) link() api.Link {
	var l api.Link
	l.Type = r.U8()
	l.Id = r.text()
	return l
}

func (w writer) custom(c api.Custom) {
	w.text(c.Name)
	w.text(c.Text)
}

func (r reader) custom() api.Custom {
	var c api.Custom
	c.Name = r.text()
	c.Text = r.text()
	return c
}

func (w writer) limits(l api.Limits) {
	w.flag(l.Has)
	if l.Has {
		w.U64(uint64(l.Total))
		w.U64(uint64(l.Count))
		w.U8(l.Unit)
	}
}

func (r reader) limits() api.Limits {
	if !r.flag() {
		return api.Limits{}
	}
	l := api.Limits{Has: true}
	l.Total = int64(r.U64())
	l.Count = int64(r.U64())
	l.Unit = r.U8()
	return l
}
