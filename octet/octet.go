// Package octet: numbers as bytes, the highest first: see DOC.md, chapter 1.
package octet

const (
	widthU8  = 1
	widthU16 = 2
	widthU32 = 4
	widthU64 = 8

	// maxShort is the greatest length that Short's two bytes can tell.
	maxShort = 1<<(8*widthU16) - 1
)

// Writer lays numbers and bytes one behind the other.
type Writer struct {
	laid []byte
}

// NewWriter answers a Writer that has no bytes.
func NewWriter() *Writer { return &Writer{} }

// U8 lays n modulo 2^8.
func (w *Writer) U8(n int) { w.number(uint64(n), widthU8) }

// U16 lays n modulo 2^16.
func (w *Writer) U16(n int) { w.number(uint64(n), widthU16) }

// U32 lays n modulo 2^32.
func (w *Writer) U32(n int64) { w.number(uint64(n), widthU32) }

// U64 lays n.
func (w *Writer) U64(n uint64) { w.number(n, widthU64) }

// Raw lays b as it is.
func (w *Writer) Raw(b []byte) { w.laid = append(w.laid, b...) }

// Short lays b's length and b; false, and nothing, if two bytes can't tell
// the length.
func (w *Writer) Short(b []byte) bool {
	if len(b) > maxShort {
		return false
	}
	w.U16(len(b))
	w.Raw(b)
	return true
}

// Bytes answers all that was laid so far.
func (w *Writer) Bytes() []byte { return fresh(w.laid) }

// Len tells how many bytes were laid so far.
func (w *Writer) Len() int { return len(w.laid) }

// number lays the lowest width bytes of n. A number below 0 comes in as its
// two's complement, whose low bytes are just the number modulo their width.
func (w *Writer) number(n uint64, width int) {
	for place := width - 1; place >= 0; place-- {
		w.laid = append(w.laid, byte(n>>(8*place)))
	}
}

// Reader takes numbers and bytes from the front.
type Reader struct {
	rest []byte
	lack bool
}

// NewReader answers a Reader of a copy of b: the caller may change b later.
func NewReader(b []byte) *Reader { return &Reader{rest: fresh(b)} }

// U8 takes a number of one byte.
func (r *Reader) U8() int { return int(r.number(widthU8)) }

// U16 takes a number of two bytes.
func (r *Reader) U16() int { return int(r.number(widthU16)) }

// U32 takes a number of four bytes.
func (r *Reader) U32() int64 { return int64(r.number(widthU32)) }

// U64 takes a number of eight bytes.
func (r *Reader) U64() uint64 { return r.number(widthU64) }

// Raw takes n bytes.
func (r *Reader) Raw(n int) []byte { return fresh(r.take(n)) }

// Short takes a length and so many bytes.
func (r *Reader) Short() []byte { return r.Raw(r.U16()) }

// Lack tells whether something was taken beyond the end.
func (r *Reader) Lack() bool { return r.lack }

// Left tells how many bytes can still be taken.
func (r *Reader) Left() int { return len(r.rest) }

// number takes width bytes as one number; 0, if they are not there.
func (r *Reader) number(width int) uint64 {
	var n uint64
	for _, b := range r.take(width) {
		n = n<<8 | uint64(b)
	}
	return n
}

// take cuts n bytes off the front. Where they are not there it drops the rest:
// so a Reader that lacks has nothing more to give, whatever is asked of it.
func (r *Reader) take(n int) []byte {
	if n < 0 || n > len(r.rest) {
		r.rest, r.lack = nil, true
		return nil
	}
	front := r.rest[:n]
	r.rest = r.rest[n:]
	return front
}

// fresh copies b, so that no two owners share memory.
func fresh(b []byte) []byte {
	c := make([]byte, len(b))
	copy(c, b)
	return c
}
