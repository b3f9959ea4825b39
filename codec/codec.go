// Package codec is layer 1: see shared/doc/01-codec.md.
package codec

import "tantalus/api"

const (
	maxNum = 10 // ten groups of seven bits hold 64
	maxFix = 8
)

// grown is b in new memory, with room behind it: what is laid must never show in what was handed in.
func grown(b []byte, more int) []byte {
	return append(make([]byte, 0, len(b)+more), b...)
}

// lay lays a number behind b, in b's own memory where it has room.
func lay(b []byte, n uint64) []byte {
	for n >= 128 {
		b = append(b, byte(n)|128)
		n >>= 7
	}
	return append(b, byte(n))
}

// Num lays a number behind b.
func Num(b []byte, n uint64) []byte {
	return lay(grown(b, maxNum), n)
}

// Str lays a text behind b, its length ahead of it.
func Str(b []byte, s string) []byte {
	return append(lay(grown(b, maxNum+len(s)), uint64(len(s))), s...)
}

// Fix lays the lowest bytes of a number behind b, so many.
func Fix(b []byte, n uint64, many int) []byte {
	many = min(max(many, 0), maxFix)
	laid := grown(b, many)
	for range many {
		laid = append(laid, byte(n))
		n >>= 8
	}
	return laid
}

// Reader takes what was laid.
type Reader struct {
	left  []byte // from the reader's place on
	fault api.Errno
}

// New is a reader of bytes.
func New(b []byte) *Reader {
	return &Reader{left: grown(b, 0)}
}

// number is the number that b begins with, and how many bytes it has.
func number(b []byte) (uint64, int, api.Errno) {
	var n uint64
	for i, c := range b[:min(len(b), maxNum)] {
		if c < 128 {
			if i > 0 && c == 0 || i == maxNum-1 && c > 1 {
				return 0, 0, api.ErrForm
			}
			return n | uint64(c)<<(7*i), i + 1, api.OK
		}
		n |= uint64(c&127) << (7 * i)
	}
	if len(b) < maxNum {
		return 0, 0, api.ErrShort
	}
	return 0, 0, api.ErrForm
}

// text is the text that b begins with, and how many bytes it has, its length's among them.
func text(b []byte, most int) (string, int, api.Errno) {
	n, head, fault := number(b)
	if fault != api.OK {
		return "", 0, fault
	}
	if n > uint64(max(most, 0)) {
		return "", 0, api.ErrLong
	}
	if n > uint64(len(b)-head) {
		return "", 0, api.ErrShort
	}
	end := head + int(n)
	return string(b[head:end]), end, api.OK
}

// fixed is the number whose lowest bytes b begins with.
func fixed(b []byte, many int) (uint64, api.Errno) {
	if many < 0 || many > maxFix {
		return 0, api.ErrArg
	}
	if many > len(b) {
		return 0, api.ErrShort
	}
	var n uint64
	for i, c := range b[:many] {
		n |= uint64(c) << (8 * i)
	}
	return n, api.OK
}

// stuck tells whether nothing more can be taken: a nil reader, or one that has met a fault.
func (r *Reader) stuck() bool {
	return r == nil || r.fault != api.OK
}

// pass goes on by so many bytes, or keeps the fault and stands still.
func (r *Reader) pass(many int, fault api.Errno) {
	r.fault = fault
	if fault == api.OK {
		r.left = r.left[many:]
	}
}

// Num takes a number.
func (r *Reader) Num() uint64 {
	if r.stuck() {
		return 0
	}
	n, many, fault := number(r.left)
	r.pass(many, fault)
	return n
}

// Str takes a text of at most so many bytes.
func (r *Reader) Str(most int) string {
	if r.stuck() {
		return ""
	}
	s, many, fault := text(r.left, most)
	r.pass(many, fault)
	return s
}

// Fix takes so many bytes as a number.
func (r *Reader) Fix(many int) uint64 {
	if r.stuck() {
		return 0
	}
	n, fault := fixed(r.left, many)
	r.pass(many, fault)
	return n
}

// Left is how many bytes are left.
func (r *Reader) Left() int {
	if r == nil {
		return 0
	}
	return len(r.left)
}

// Fault is the first error.
func (r *Reader) Fault() api.Errno {
	if r == nil {
		return api.OK
	}
	return r.fault
}

// End is the first error, or that bytes are left.
func (r *Reader) End() api.Errno {
	if r.Fault() == api.OK && r.Left() > 0 {
		return api.ErrTail
	}
	return r.Fault()
}
