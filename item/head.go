// Package item: the codes of items, made and gone through one by one: see
// DOC.md. It stands beside package code because what reads many codes, one
// behind the other, needs them as they come.
package item

import (
	"math/bits"
	"strings"
)

const (
	bare  = 128       // a byte below this is its own code
	short = 55        // the longest body whose length stands in the first byte
	wide  = 4         // a length has at most so many bytes
	long  = 1<<32 - 1 // so this is the longest body that has a code
)

// head is how the codes of one kind of item begin.
type head struct {
	list bool
	near byte // plus the length of a short body
	far  byte // plus the number of bytes of a longer body's length
}

var heads = [2]head{
	{list: false, near: 128, far: 183},
	{list: true, near: 192, far: 247},
}

// headOf is the head of lists, or that of strings.
func headOf(list bool) head {
	if list {
		return heads[1]
	}
	return heads[0]
}

// width is how many bytes a length has, with no 0 ahead.
func width(n uint64) int { return (bits.Len64(n) + 7) / 8 }

// headSize is how many bytes the head of a body of n bytes has.
func headSize(n uint64) uint64 {
	if n <= short {
		return 1
	}
	return 1 + uint64(width(n))
}

// write writes the head of a body of n bytes.
func (h head) write(b *strings.Builder, n uint64) {
	if n <= short {
		b.WriteByte(h.near + byte(n))
		return
	}
	k := width(n)
	b.WriteByte(h.far + byte(k))
	for k > 0 {
		k--
		b.WriteByte(byte(n >> (8 * k)))
	}
}

// body is where the body of a code stands in it.
type body struct {
	list     bool
	from, to int
}

// firstBody finds the body of the code with which s begins, if there is one.
func firstBody(s string) (body, bool) {
	if s == "" {
		return body{}, false
	}
	c := s[0]
	if c < bare {
		return body{to: 1}, true
	}
	for _, h := range heads {
		if c >= h.near && c <= h.far {
			return h.body(s, 1, uint64(c-h.near))
		}
		if c > h.far && c <= h.far+wide {
			return h.farBody(s, 1+int(c-h.far))
		}
	}
	return body{}, false
}

// farBody is the body of a code whose length stands ahead of from.
func (h head) farBody(s string, from int) (body, bool) {
	if len(s) < from || s[1] == 0 {
		return body{}, false
	}
	n := uint64(0)
	for _, c := range []byte(s[1:from]) {
		n = n<<8 | uint64(c)
	}
	if n <= short {
		return body{}, false
	}
	return h.body(s, from, n)
}

// body is the body of n bytes behind from, unless it is cut short, or is a
// byte that needs no head.
func (h head) body(s string, from int, n uint64) (body, bool) {
	if n > uint64(len(s)-from) {
		return body{}, false
	}
	if !h.list && n == 1 && s[from] < bare {
		return body{}, false
	}
	return body{list: h.list, from: from, to: from + int(n)}, true
}
