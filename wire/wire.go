// Package wire writes numbers, texts and lists into bytes in one form alone, and reads them.
package wire

import "foliot/api"

// The limits.
const (
	MaxText = 1 << 12 // bytes of a text
	MaxList = 1 << 12 // things of a list
)

const (
	base      = 128 // of a number's digits: a byte from base on has another one behind it
	maxDigits = 10
	lastDigit = 1 // the tenth digit at most: nine have 63 bits of a number's 64
)

// Writer is bytes that are written. The zero one has none.
type Writer struct {
	b []byte
}

// Reader is bytes that are read; behind an error nothing more is.
type Reader struct {
	b   []byte
	at  int
	err api.Errno
}

// Bytes: what was written.
func (w *Writer) Bytes() []byte { return append([]byte(nil), w.b...) }

// Len: how many bytes were written.
func (w *Writer) Len() int { return len(w.b) }

// Byte: bytes as they are.
func (w *Writer) Byte(list ...byte) { w.b = append(w.b, list...) }

// Num: numbers from nought on, seven bits a byte, the lowest first.
func (w *Writer) Num(list ...uint64) {
	for _, n := range list {
		for n >= base {
			w.Byte(byte(n%base) + base)
			n /= base
		}
		w.Byte(byte(n))
	}
}

// Int: numbers with a sign.
func (w *Writer) Int(list ...int64) {
	for _, n := range list {
		w.Num(fold(n))
	}
}

// fold: a number from 0 on doubled; one below 0 turned about (its distance from 0, less one), doubled, and one.
func fold(n int64) uint64 {
	if n < 0 {
		return uint64(^n)*2 + 1
	}
	return uint64(n) * 2
}

// unfold: the number that was folded.
func unfold(u uint64) int64 {
	if u%2 == 1 {
		return ^int64(u / 2)
	}
	return int64(u / 2)
}

// Fixed: a number in four bytes, the lowest first.
func (w *Writer) Fixed(n uint32) {
	for i := range 4 {
		w.Byte(byte(n >> (8 * i)))
	}
}

// Text: how many bytes, and they.
func (w *Writer) Text(s string) {
	w.Num(uint64(len(s)))
	w.b = append(w.b, s...)
}

// Sum: 32 bytes.
func (w *Writer) Sum(s api.Sum) {
	at := len(w.b)
	w.b = append(w.b, make([]byte, len(s))...)
	copy(w.b[at:], s[:])
}

// Read: bytes of which nothing was read.
func Read(b []byte) *Reader {
	// A copy: who handed them in may change them while they are read.
	return &Reader{b: append([]byte(nil), b...)}
}

// Err: what went wrong first.
func (r *Reader) Err() api.Errno { return r.err }

// At: how many bytes were read.
func (r *Reader) At() int { return r.at }

// Left: how many are left; none behind an error.
func (r *Reader) Left() int {
	if r.err != api.OK {
		return 0
	}
	return len(r.b) - r.at
}

// Fail: something is wrong with what was read.
func (r *Reader) Fail(e api.Errno) {
	if r.err == api.OK {
		r.err = e
	}
}

// next: the next n bytes, or none behind an error.
func (r *Reader) next(n int) []byte {
	if n > len(r.b)-r.at {
		r.Fail(api.ErrShort)
	}
	if r.err != api.OK {
		return nil
	}
	b := r.b[r.at : r.at+n]
	r.at += n
	return b
}

// Byte: the next byte.
func (r *Reader) Byte() byte {
	b := r.next(1)
	if r.err != api.OK {
		return 0
	}
	return b[0]
}

// Num: the next number from nought on, at most so much.
func (r *Reader) Num(most uint64) uint64 {
	n := r.digits()
	if n > most {
		r.Fail(api.ErrLong)
	}
	if r.err != api.OK {
		return 0
	}
	return n
}

// digits: the number that the next bytes are; behind an error what there is of it.
func (r *Reader) digits() uint64 {
	var n uint64
	for i := range maxDigits {
		d := r.Byte()
		if i > 0 && d == 0 || i == maxDigits-1 && d > lastDigit {
			r.Fail(api.ErrForm) // ErrShort, whose byte is 0 too, came first and stays
		}
		n += uint64(d%base) << (7 * i)
		if d < base || r.err != api.OK {
			break
		}
	}
	return n
}

// Int: the next number with a sign.
func (r *Reader) Int() int64 { return unfold(r.Num(1<<64 - 1)) }

// Count: the next number, of things in a list.
func (r *Reader) Count() int { return int(r.Num(MaxList)) }

// Fixed: the next number in four bytes.
func (r *Reader) Fixed() uint32 {
	var n uint32
	for i, b := range r.next(4) {
		n += uint32(b) << (8 * i)
	}
	return n
}

// Text: the next text.
func (r *Reader) Text() string { return string(r.next(int(r.Num(MaxText)))) }

// Sum: the next 32 bytes.
func (r *Reader) Sum() api.Sum {
	var s api.Sum
	copy(s[:], r.next(len(s)))
	return s
}

// End: what went wrong first, or that something is left.
func (r *Reader) End() api.Errno {
	if r.Left() > 0 {
		return api.ErrForm
	}
	return r.err
}
