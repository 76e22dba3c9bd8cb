// Package num is layer 1: numbers and texts as bytes: see shared/doc/01-num.md.
package num

import "math/bits"

const (
	groupBits = 7      // bits of a number that one byte carries
	more      = 1 << 7 // set in each byte but the last one
	maxBytes  = 10     // of a number with 64 bits
	lastTop   = 1      // the tenth byte: only one of the 64 bits is left for it
)

// Put returns b followed by the encoding of x.
func Put(b []byte, x int) []byte {
	u := unsigned(x)
	out := extend(b, size(u))
	fill(out[len(b):], u)
	return out
}

// PutText returns b followed by the length of s and its bytes.
func PutText(b []byte, s string) []byte {
	u := unsigned(len(s))
	n := size(u)
	out := extend(b, n+len(s))
	fill(out[len(b):len(b)+n], u)
	copy(out[len(b)+n:], s)
	return out
}

// Reader decodes numbers and texts from the beginning of its bytes.
type Reader struct {
	rest []byte
	bad  bool
}

// NewReader copies b, so that later changes of b are not seen.
func NewReader(b []byte) *Reader {
	return &Reader{rest: extend(b, 0)}
}

// Num decodes the next number; if there is none, the reader becomes bad.
func (r *Reader) Num() int {
	u, n := decode(r.rest)
	if n == 0 {
		r.fail()
		return 0
	}
	r.rest = r.rest[n:]
	return signed(u)
}

// Text decodes the next text; if there is none, the reader becomes bad.
func (r *Reader) Text() string {
	n := r.Num()
	if n < 0 || n > len(r.rest) {
		r.fail()
		return ""
	}
	s := string(r.rest[:n])
	r.rest = r.rest[n:]
	return s
}

// Left returns how many bytes remain, 0 if the reader is bad.
func (r *Reader) Left() int { return len(r.rest) }

// Bad reports whether something could not be decoded.
func (r *Reader) Bad() bool { return r.bad }

// fail drops what remains: a reader without bytes finds nothing to decode, so it stays bad.
func (r *Reader) fail() {
	r.rest = nil
	r.bad = true
}

// unsigned inverts a negative x ahead of doubling it: -2x itself would go over for the least number.
func unsigned(x int) uint64 {
	if x < 0 {
		return uint64(^x)<<1 | 1
	}
	return uint64(x) << 1
}

func signed(u uint64) int {
	x := int(u >> 1)
	if u&1 != 0 {
		return ^x
	}
	return x
}

// size counts the bytes of u; 0 has one, though none of its bits is set.
func size(u uint64) int {
	return (bits.Len64(u|1) + groupBits - 1) / groupBits
}

// extend copies b with room behind it: append could write into spare capacity, which is the caller's.
func extend(b []byte, room int) []byte {
	out := make([]byte, len(b)+room)
	copy(out, b)
	return out
}

// fill lays u down in all bytes of b, which are as many as size says.
func fill(b []byte, u uint64) {
	last := len(b) - 1
	for i := range last {
		b[i] = byte(u) | more
		u >>= groupBits
	}
	b[last] = byte(u)
}

// decode returns the number at the beginning of b and how many bytes it has; 0 bytes if there is none.
func decode(b []byte) (uint64, int) {
	u := uint64(0)
	for i := range min(len(b), maxBytes) {
		c := b[i]
		u |= uint64(c&^more) << (groupBits * i)
		if c&more != 0 {
			continue
		}
		if mayEnd(c, i) {
			return u, i + 1
		}
		return 0, 0
	}
	return 0, 0
}

// mayEnd reports whether c may be the last byte of a number, at the index i:
// a 0 there is a byte too many, and the tenth byte has room for one bit alone.
func mayEnd(c byte, i int) bool {
	if i == maxBytes-1 {
		return c == lastTop
	}
	return c != 0 || i == 0
}
