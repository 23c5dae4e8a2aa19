// Package wire is layer 2: numbers and bytes, one behind the other: see shared/doc/02-wire.md.
package wire

import (
	"math"

	"averment/api"
	"averment/fault"
)

// more is the bit of a number's byte that says that a further byte follows.
const more = 0x80

// longest is how many bytes a number of 64 bits has at most.
const longest = 10

// Writer lays numbers and bytes one behind the other. A nil Writer lays nothing.
type Writer struct {
	laid []byte
}

// New makes a Writer that has laid nothing.
func New() *Writer { return &Writer{} }

// Byte lays a byte.
func (w *Writer) Byte(b byte) {
	if w == nil {
		return
	}
	w.laid = append(w.laid, b)
}

// Uint lays a number by seven bits a byte, the lowest first.
func (w *Writer) Uint(n uint64) {
	if w == nil {
		return
	}
	for n >= more {
		w.laid = append(w.laid, byte(n)|more)
		n >>= 7
	}
	w.laid = append(w.laid, byte(n))
}

// Int lays a number with a sign.
func (w *Writer) Int(n int64) {
	// Both cases of the document in one, without going beyond 64 bits: 2n, with all bits turned round below 0.
	w.Uint(uint64(n)<<1 ^ uint64(n>>63))
}

// Raw lays bytes as they are.
func (w *Writer) Raw(b []byte) {
	if w == nil {
		return
	}
	w.laid = append(w.laid, b...)
}

// Section lays the number of bytes, and the bytes.
func (w *Writer) Section(b []byte) {
	w.Uint(uint64(len(b)))
	w.Raw(b)
}

// Bytes tells all that was laid.
func (w *Writer) Bytes() []byte {
	if w == nil {
		return nil
	}
	return copied(w.laid)
}

// Reader takes numbers and bytes one behind the other.
// The bytes are never changed, so that sections and copies may look at the same ones.
type Reader struct {
	all     []byte
	at, end int
}

// Read makes a Reader of b, at place 0.
func Read(b []byte) *Reader {
	return &Reader{all: copied(b), end: len(b)}
}

// fail is the error k, where the Reader stands.
func (r *Reader) fail(k api.Errno) error { return fault.At(k, r.At()) }

// Byte takes a byte.
func (r *Reader) Byte() (byte, error) {
	if r == nil {
		return 0, r.fail(api.ErrArg)
	}
	if r.Left() == 0 {
		return 0, r.fail(api.ErrShort)
	}
	b := r.all[r.at]
	r.at++
	return b, nil
}

// Uint takes a number that is at most most.
func (r *Reader) Uint(most uint64) (uint64, error) {
	if r == nil {
		return 0, r.fail(api.ErrArg)
	}
	n, size, kind := number(r.all[r.at:r.end])
	if kind != api.OK {
		return 0, r.fail(kind)
	}
	if n > most {
		return 0, r.fail(api.ErrRange)
	}
	r.at += size
	return n, nil
}

// number tells which number b begins with, and how many bytes that has; or what is wrong with it.
func number(b []byte) (n uint64, size int, kind api.Errno) {
	for i, c := range b {
		// Of a tenth byte only one bit fits; 0 would be a byte too many, all else too many bits or bytes.
		if i == longest-1 && c != 1 {
			return 0, 0, api.ErrForm
		}
		n |= uint64(c&^more) << (7 * i)
		if c&more != 0 {
			continue
		}
		if c == 0 && i > 0 {
			return 0, 0, api.ErrForm
		}
		return n, i + 1, api.OK
	}
	return 0, 0, api.ErrShort
}

// Int takes a number with a sign.
func (r *Reader) Int() (int64, error) {
	u, e := r.Uint(math.MaxUint64)
	if e != nil {
		return 0, e
	}
	n := int64(u >> 1)
	if u&1 == 1 {
		n = ^n
	}
	return n, nil
}

// Raw takes n bytes.
func (r *Reader) Raw(n int) ([]byte, error) {
	if r == nil || n < 0 {
		return nil, r.fail(api.ErrArg)
	}
	if n > r.Left() {
		return nil, r.fail(api.ErrShort)
	}
	b := copied(r.all[r.at : r.at+n])
	r.at += n
	return b, nil
}

// Section takes a section: a Reader of its bytes, whose places are those of the whole.
func (r *Reader) Section() (*Reader, error) {
	ahead := r.Copy()
	n, e := ahead.Uint(math.MaxUint64)
	if e != nil {
		return nil, e
	}
	if n > uint64(ahead.Left()) {
		return nil, r.fail(api.ErrShort)
	}
	end := ahead.at + int(n)
	r.at = end
	return &Reader{all: r.all, at: ahead.at, end: end}, nil
}

// End tells whether all was taken.
func (r *Reader) End() error {
	if r == nil {
		return r.fail(api.ErrArg)
	}
	if r.Left() > 0 {
		return r.fail(api.ErrForm)
	}
	return nil
}

// Left tells how many bytes are left.
func (r *Reader) Left() int {
	if r == nil {
		return 0
	}
	return r.end - r.at
}

// At tells at which place the next byte is.
func (r *Reader) At() int {
	if r == nil {
		return 0
	}
	return r.at
}

// Copy makes another Reader, at the same place of the same bytes.
func (r *Reader) Copy() *Reader {
	if r == nil {
		return nil
	}
	return &Reader{all: r.all, at: r.at, end: r.end}
}

// copied is b in new memory.
func copied(b []byte) []byte {
	c := make([]byte, len(b))
	copy(c, b)
	return c
}
