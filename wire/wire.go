// Package wire implements layer 1: binary encoding. See shared/doc/01-wire.md.
package wire

import "bookplate/api"

// maxGroups is the number of groups of seven bits that 64 bits need.
const maxGroups = 10

// Int appends the encoding of an integer.
func Int(b []byte, n int) []byte {
	var groups [maxGroups]byte
	u := fold(n)
	at := maxGroups - 1
	groups[at] = byte(u & 0x7f)
	for u >>= 7; u > 0; u >>= 7 {
		at--
		groups[at] = byte(u&0x7f) | 0x80
	}
	return append(b, groups[at:]...)
}

// Bool appends the encoding of a boolean.
func Bool(b []byte, v bool) []byte {
	if v {
		return Int(b, 1)
	}
	return Int(b, 0)
}

// Text appends the encoding of a text.
func Text(b []byte, s string) []byte {
	return append(Int(b, len(s)), s...)
}

// Ints appends the encoding of a list of integers.
func Ints(b []byte, l []int) []byte {
	return appendList(b, l, Int)
}

// Texts appends the encoding of a list of texts.
func Texts(b []byte, l []string) []byte {
	return appendList(b, l, Text)
}

func appendList[T any](b []byte, l []T, element func([]byte, T) []byte) []byte {
	b = Int(b, len(l))
	for _, v := range l {
		b = element(b, v)
	}
	return b
}

// fold relies on the wraparound of uint64: the double of a negative integer has all bits of -2n - 1 inverted.
func fold(n int) uint64 {
	u := uint64(n) << 1
	if n < 0 {
		return ^u
	}
	return u
}

func unfold(u uint64) int {
	n := int(u >> 1)
	if u&1 == 1 {
		return ^n
	}
	return n
}

// Reader decodes values from a byte string.
type Reader struct {
	rest   []byte // the bytes from the place on
	failed bool
}

// From returns a reader of a byte string.
func From(b []byte) *Reader {
	return &Reader{rest: append([]byte(nil), b...)}
}

// Int reads an integer from lo to hi.
func (r *Reader) Int(lo, hi int) int {
	return read(r, intFrom(lo, hi))
}

// Bool reads a boolean.
func (r *Reader) Bool() bool {
	return read(r, intFrom(0, 1)) == 1
}

// Text reads a text of at most max bytes.
func (r *Reader) Text(max int) string {
	return read(r, textOf(max))
}

// Ints reads a list of at most max integers from lo to hi.
func (r *Reader) Ints(max, lo, hi int) []int {
	return read(r, listOf(max, intFrom(lo, hi)))
}

// Texts reads a list of at most max texts of at most long bytes.
func (r *Reader) Texts(max, long int) []string {
	return read(r, listOf(max, textOf(long)))
}

// Rest returns the number of bytes that were not read.
func (r *Reader) Rest() int {
	if r == nil {
		return 0
	}
	return len(r.rest)
}

// Done reports whether everything was read without a failure.
func (r *Reader) Done() api.Errno {
	if r == nil {
		return api.ErrState
	}
	if r.failed || len(r.rest) > 0 {
		return api.ErrForm
	}
	return api.OK
}

// A decoder takes the value at the beginning of b and returns the bytes behind it.
type decoder[T any] func(b []byte) (v T, rest []byte, ok bool)

// read goes on only behind a whole value, so that a failure inside of a list leaves the place ahead of the list.
func read[T any](r *Reader, decode decoder[T]) T {
	var zero T
	if r == nil || r.failed {
		return zero
	}
	v, rest, ok := decode(r.rest)
	if !ok {
		r.failed = true
		return zero
	}
	r.rest = rest
	return v
}

func intFrom(lo, hi int) decoder[int] {
	return func(b []byte) (int, []byte, bool) {
		u, rest, ok := decodeGroups(b)
		n := unfold(u)
		return n, rest, ok && lo <= n && n <= hi
	}
}

// decodeGroups rejects a leading group of zeros, which a shorter form would leave out, and numbers of more than 64 bits.
func decodeGroups(b []byte) (u uint64, rest []byte, ok bool) {
	if len(b) == 0 || b[0] == 0x80 {
		return 0, nil, false
	}
	for i, c := range b {
		if u>>57 != 0 {
			return 0, nil, false
		}
		u = u<<7 | uint64(c&0x7f)
		if c&0x80 == 0 {
			return u, b[i+1:], true
		}
	}
	return 0, nil, false
}

func textOf(max int) decoder[string] {
	length := intFrom(0, max)
	return func(b []byte) (string, []byte, bool) {
		n, rest, ok := length(b)
		if !ok || n > len(rest) {
			return "", nil, false
		}
		return string(rest[:n]), rest[n:], true
	}
}

// listOf lets the list grow with its elements: a number of elements that no bytes follow must not take memory.
func listOf[T any](max int, element decoder[T]) decoder[[]T] {
	count := intFrom(0, max)
	return func(b []byte) ([]T, []byte, bool) {
		n, rest, ok := count(b)
		if !ok {
			return nil, nil, false
		}
		var l []T
		for range n {
			v, behind, ok := element(rest)
			if !ok {
				return nil, nil, false
			}
			l, rest = append(l, v), behind
		}
		return l, rest, true
	}
}
