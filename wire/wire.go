// Package wire is layer 1: numbers, strings and lists as bytes, each in exactly one way.
package wire

import (
	"bytes"
	"math"
	"math/bits"
)

const (
	negative = 0x80 // the bit of a header that marks a negative number
	maxSize  = 8    // the most bytes of a magnitude
)

// Writer collects encoded values; the zero Writer has no bytes.
type Writer struct {
	written []byte
}

// Number appends the encoding of n.
func (w *Writer) Number(n int) {
	if w == nil {
		return
	}
	header, magnitude := byte(0), uint64(n)
	if n < 0 {
		// The complement is -1 - n, which fits even for the least number.
		header, magnitude = negative, ^magnitude
	}
	size := (bits.Len64(magnitude) + 7) / 8
	w.written = append(w.written, header|byte(size))
	for left := size; left > 0; left-- {
		w.written = append(w.written, byte(magnitude>>(8*(left-1))))
	}
}

// Text appends the encoding of s.
func (w *Writer) Text(s string) {
	if w == nil {
		return
	}
	w.Number(len(s))
	w.written = append(w.written, s...)
}

// Flag appends the number 1 for true and 0 for false.
func (w *Writer) Flag(b bool) {
	if b {
		w.Number(1)
	} else {
		w.Number(0)
	}
}

// Raw appends the bytes themselves.
func (w *Writer) Raw(b []byte) {
	if w == nil {
		return
	}
	w.written = append(w.written, b...)
}

// Bytes returns a copy of everything written.
func (w *Writer) Bytes() []byte {
	if w == nil {
		return nil
	}
	return bytes.Clone(w.written)
}

// Reader consumes encoded values until one of them is not what was asked for; from then on it is bad.
type Reader struct {
	rest []byte
	bad  bool
}

// Read returns a reader at the beginning of b.
func Read(b []byte) *Reader {
	// A copy, since the caller may change b while the reader is in use.
	return &Reader{rest: bytes.Clone(b)}
}

// Number returns the number that is encoded next.
func (r *Reader) Number() int {
	return r.between(math.MinInt, math.MaxInt)
}

// Count returns the number that is encoded next, if it is from 0 to most.
func (r *Reader) Count(most int) int {
	return r.between(0, most)
}

// Text returns the string that is encoded next.
func (r *Reader) Text() string {
	size := r.Count(math.MaxInt)
	if size > r.Left() {
		r.fail()
	}
	if !r.OK() {
		return ""
	}
	s := string(r.rest[:size])
	r.rest = r.rest[size:]
	return s
}

// Flag returns whether the number that is encoded next, 0 or 1, is 1.
func (r *Reader) Flag() bool {
	return r.Count(1) == 1
}

// Left returns the number of bytes that are not consumed.
func (r *Reader) Left() int {
	if !r.OK() {
		return 0
	}
	return len(r.rest)
}

// OK reports whether the reader is not bad.
func (r *Reader) OK() bool {
	return r != nil && !r.bad
}

// End reports whether the reader is not bad and no bytes are left.
func (r *Reader) End() bool {
	return r.OK() && r.Left() == 0
}

// between consumes the next number, if it is one from least to most.
func (r *Reader) between(least, most int) int {
	if !r.OK() {
		return 0
	}
	n, used := decode(r.rest)
	if used == 0 || n < least || n > most {
		r.fail()
		return 0
	}
	r.rest = r.rest[used:]
	return n
}

func (r *Reader) fail() {
	r.rest, r.bad = nil, true
}

// decode returns the number that b begins with and how many bytes it takes, which is 0 if there is none.
func decode(b []byte) (n, used int) {
	if len(b) == 0 {
		return 0, 0
	}
	// A header with bits that must be 0 has a size that is too great.
	size := int(b[0] &^ negative)
	if size > maxSize || size > len(b)-1 {
		return 0, 0
	}
	magnitude := uint64(0)
	for _, c := range b[1 : 1+size] {
		magnitude = magnitude<<8 | uint64(c)
	}
	// A leading zero byte would be a second encoding of the same number.
	if size > 0 && b[1] == 0 || magnitude > math.MaxInt {
		return 0, 0
	}
	n = int(magnitude)
	if b[0]&negative != 0 {
		n = -1 - n
	}
	return n, 1 + size
}
