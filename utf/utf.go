// Package utf is layer 1: see shared/doc/01-utf.md.
package utf

import (
	"foolscap/api"
)

// The last characters of one, two and three bytes, and the numbers between that are no characters.
const (
	lastOfOne   = 0x7F
	lastOfTwo   = 0x7FF
	lastOfThree = 0xFFFF
	holeFirst   = 0xD800
	holeLast    = 0xDFFF
)

// Each byte but the first begins with one and nought, and has six bits of the number.
const (
	laterMark = 0x80
	laterMask = 0xC0
	laterBits = 0x3F
	laterLen  = 6
)

// maxSize is how many bytes a character has at most.
const maxSize = 4

// Size is how many bytes a character has; 0, if it is none (A1).
func Size(c rune) int {
	switch {
	case c < 0 || c > api.MaxRune:
		return 0
	case holeFirst <= c && c <= holeLast:
		return 0
	case c <= lastOfOne:
		return 1
	case c <= lastOfTwo:
		return 2
	case c <= lastOfThree:
		return 3
	}
	return maxSize
}

// Encode is the bytes of all characters (A1).
func Encode(l []rune) ([]byte, api.Errno) {
	b := make([]byte, 0, len(l))
	for _, c := range l {
		size := Size(c)
		if size == 0 {
			return nil, api.ErrArg
		}
		b = lay(b, c, size)
	}
	return b, api.OK
}

// lay puts a character's bytes behind b. The last byte has the lowest bits, so the bytes
// are laid from there on, and what is still left of the number goes into the first one.
func lay(b []byte, c rune, size int) []byte {
	var laid [maxSize]byte
	switch size {
	case 4:
		laid[3] = later(c)
		c >>= laterLen
		fallthrough
	case 3:
		laid[2] = later(c)
		c >>= laterLen
		fallthrough
	case 2:
		laid[1] = later(c)
		c >>= laterLen
		fallthrough
	default:
		laid[0] = mark(size) | byte(c)
	}
	return append(b, laid[:size]...)
}

// later is a byte that is not the first, with the lowest bits of c.
func later(c rune) byte {
	return laterMark | byte(c&laterBits)
}

// mark is what the first of so many bytes begins with.
func mark(size int) byte {
	switch size {
	case 2:
		return 0xC0
	case 3:
		return 0xE0
	case 4:
		return 0xF0
	}
	return 0
}

// First is the character with whose bytes b begins, and how many these are (A2).
func First(b []byte) (rune, int, api.Errno) {
	if len(b) == 0 {
		return 0, 0, api.ErrNone
	}
	c, size := lead(b[0])
	if size == 0 {
		return 0, 0, api.ErrForm
	}
	there := min(size, len(b))
	for _, x := range b[1:there] {
		if x&laterMask != laterMark {
			return 0, 0, api.ErrForm
		}
		c = c<<laterLen | rune(x&laterBits)
	}
	if !begins(c, size, size-there) {
		return 0, 0, api.ErrForm
	}
	if there < size {
		return 0, 0, api.ErrState
	}
	return c, size, api.OK
}

// lead is the bits of the number that a first byte has, and how many bytes it says there
// are; 0 of these, if no character begins with such ones and noughts.
func lead(x byte) (rune, int) {
	switch {
	case x < 0x80:
		return rune(x), 1
	case x < 0xC0:
		return 0, 0
	case x < 0xE0:
		return rune(x & 0x1F), 2
	case x < 0xF0:
		return rune(x & 0x0F), 3
	case x < 0xF8:
		return rune(x & 0x07), 4
	}
	return 0, 0
}

// begins tells whether some character of so many bytes has the bits c, and behind them
// those of missing bytes more. It is enough to ask the least and the greatest number that
// begin so: each run of characters of one size is longer than these numbers are many, and
// so none lies wholly between the two.
func begins(c rune, size, missing int) bool {
	shift := laterLen * missing
	least := c << shift
	greatest := least | (1<<shift - 1)
	return Size(least) == size || Size(greatest) == size
}

// Decode is the characters whose bytes b is (A2).
func Decode(b []byte) ([]rune, api.Errno) {
	var l []rune
	for len(b) > 0 {
		c, size, e := First(b)
		if e != api.OK {
			return nil, api.ErrForm
		}
		l = append(l, c)
		b = b[size:]
	}
	return l, api.OK
}

// Tail is how many bytes at the end of b are a beginning of some character's bytes, but
// not all of them (A3).
func Tail(b []byte) int {
	for n := min(maxSize-1, len(b)); n > 0; n-- {
		if _, _, e := First(b[len(b)-n:]); e == api.ErrState {
			return n
		}
	}
	return 0
}
