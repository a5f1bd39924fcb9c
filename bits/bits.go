// Package bits is layer 1: see shared/doc/01-bits.md.
package bits

import (
	"slices"

	"serinette/api"
)

// widest is how many bits a number has at most.
const widest = 64

// Writer lays numbers as bits.
type Writer struct {
	// The last byte's bits that aren't laid yet stay 0: so Bytes has nothing to fill.
	bytes []byte
	count int
}

// New is one without bits.
func New() *Writer { return &Writer{} }

// Put lays a number.
func (w *Writer) Put(n uint64, width int) {
	left := held(width)
next:
	if left == 0 {
		return
	}
	room := toByte(w.count)
	if room == 0 {
		w.bytes = append(w.bytes, 0)
		room = 8
	}
	some := min(room, left)
	left -= some
	w.bytes[len(w.bytes)-1] |= lowest(byte(n>>left), some) << (room - some)
	w.count += some
	goto next
}

// Fill fills the last byte.
func (w *Writer) Fill() { w.Put(0, toByte(w.count)) }

// Len is how many bits there are.
func (w *Writer) Len() int { return w.count }

// Bytes are they.
func (w *Writer) Bytes() []byte { return slices.Clone(w.bytes) }

// Reader takes numbers from bits.
type Reader struct {
	bytes []byte
	at    int
	fail  api.Errno
}

// Open is one of bytes.
func Open(b []byte) *Reader { return &Reader{bytes: slices.Clone(b)} }

// Take is the next number.
func (r *Reader) Take(width int) uint64 {
	left := held(width)
	if r.fail != api.OK {
		return 0
	}
	if left > r.Left() {
		r.fail = api.ErrShort
		return 0
	}
	n := uint64(0)
next:
	if left == 0 {
		return n
	}
	room := 8 - r.at%8
	some := min(room, left)
	left -= some
	n = n<<some | uint64(lowest(r.bytes[r.at/8]>>(room-some), some))
	r.at += some
	goto next
}

// Fill leaves out what fills the byte.
func (r *Reader) Fill() {
	from := r.at
	if r.Take(toByte(from)) != 0 {
		r.at, r.fail = from, api.ErrForm
	}
}

// Left is how many bits are left.
func (r *Reader) Left() int { return 8*len(r.bytes) - r.at }

// At is how many are behind it.
func (r *Reader) At() int { return r.at }

// Fail is how it failed.
func (r *Reader) Fail() api.Errno { return r.fail }

// End tells what is wrong at the end.
func (r *Reader) End() api.Errno {
	if r.fail == api.OK && r.Left() > 0 {
		return api.ErrTail
	}
	return r.fail
}

// held is a width as it is held.
func held(width int) int { return max(0, min(width, widest)) }

// toByte is how many bits are missing to a multiple of 8.
func toByte(count int) int { return -count & 7 }

// lowest is the lowest bits of a byte, from 1 to 8 of them.
func lowest(b byte, many int) byte { return b & (0xff >> (8 - many)) }
