// Package pack: Numbers and lumps as bytes: see doc/01-pack.md.
package pack

import (
	"slices"

	"memento/api"
)

const (
	bits = 7         // of a number in a byte
	more = 1 << bits // the bit that says: another byte follows
	tail = 64 / bits // the place of the tenth byte, which has a single bit left to say
)

// Put: each of l in its shortest form, one behind another.
func Put(l ...uint64) []byte {
	var b []byte
	for _, n := range l {
		for n >= more {
			b = append(b, byte(n)|more)
			n >>= bits
		}
		b = append(b, byte(n))
	}
	return b
}

// Lump: the number of b's length, then b.
func Lump(b []byte) []byte {
	return append(Put(uint64(len(b))), b...)
}

// Join: all of l, one behind another.
func Join(l ...[]byte) []byte {
	n := 0
	for _, b := range l {
		n += len(b)
	}
	all := slices.Grow([]byte(nil), n)
	for _, b := range l {
		all = append(all, b...)
	}
	return all
}

// cursor: what isn't read yet, and the first error.
type cursor struct {
	rest []byte
	err  api.Errno
}

// fail ends all reading: what is left counts no more.
func (c *cursor) fail(e api.Errno) {
	c.rest, c.err = nil, e
}

// number reads the next number, whatever it is.
func (c *cursor) number() (uint64, api.Errno) {
	var n uint64
	for i, b := range c.rest {
		if i == tail && b > 1 || i > 0 && b == 0 {
			return 0, api.ErrBytes
		}
		n |= uint64(b&^more) << (bits * i)
		if b < more {
			c.rest = c.rest[i+1:]
			return n, api.OK
		}
	}
	return 0, api.ErrShort
}

// Reader reads bytes from their beginning on, till the first error.
type Reader struct {
	cursor
}

// New: a Reader of b.
func New(b []byte) *Reader {
	return &Reader{cursor{rest: Join(b)}}
}

// Num: the next number, if it is at most most.
func (r *Reader) Num(most uint64) uint64 {
	if r.err != api.OK {
		return 0
	}
	n, e := r.number()
	if e == api.OK && n > most {
		e = api.ErrLong
	}
	if e != api.OK {
		r.fail(e)
		return 0
	}
	return n
}

// Lump: the next lump, if it is of at most most bytes.
func (r *Reader) Lump(most int) []byte {
	n := r.Num(uint64(max(most, 0)))
	if r.err != api.OK {
		return nil
	}
	if n > uint64(len(r.rest)) {
		r.fail(api.ErrShort)
		return nil
	}
	b := Join(r.rest[:n])
	r.rest = r.rest[n:]
	return b
}

// Left: how many bytes are left.
func (r *Reader) Left() int {
	return len(r.rest)
}

// Err: the first error.
func (r *Reader) Err() api.Errno {
	return r.err
}
