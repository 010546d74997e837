// Package utf is texts: see DOC.md, chapter 1.
package utf

const (
	longest       = 4        // bytes that a code point has at most
	surrogates    = 0xD800   // the first number that another coding needs for halves: no code points
	surrogatesEnd = 0xE000   // the first behind those
	pointsEnd     = 0x110000 // the first behind all code points
)

// lengths tells, by the upper five bits of a byte, how many bytes a code point has that begins with it; 0 where none begins so.
var lengths = [32]int{
	1, 1, 1, 1, 1, 1, 1, 1, 1, 1, 1, 1, 1, 1, 1, 1,
	0, 0, 0, 0, 0, 0, 0, 0,
	2, 2, 2, 2,
	3, 3,
	4,
	0,
}

// heads tells, by how many bytes there are, what the first one holds beside bits of the code point.
var heads = [longest + 1]byte{0, 0, 0xC0, 0xE0, 0xF0}

// least tells, by how many bytes there are, the smallest code point that needs so many: a smaller one has a shorter form.
var least = [longest + 1]int{0, 0, 0x80, 0x800, 0x10000}

// Next is the code point that begins at the byte at, and how many bytes it has; -1 and 1 where none begins; 0 and 0 outside of s.
func Next(s string, at int) (int, int) {
	if at < 0 || at >= len(s) {
		return 0, 0
	}
	n := lengths[s[at]>>3]
	if n == 0 || n > len(s)-at {
		return -1, 1
	}
	c := join(s[at : at+n])
	if c < least[n] || !point(c) {
		return -1, 1
	}
	return c, n
}

// join shifts the bits together that the bytes of s hold, the first of which is a head for so many; -1 if another one does not follow on.
func join(s string) int {
	c := int(s[0] ^ heads[len(s)])
	for i := 1; i < len(s); i++ {
		if s[i]>>6 != 2 {
			return -1
		}
		c = c<<6 | int(s[i]&0x3F)
	}
	return c
}

// point tells whether c is a code point that a text may have.
func point(c int) bool {
	return c >= 0 && c < surrogates || c >= surrogatesEnd && c < pointsEnd
}

// Valid tells whether all of s is code points.
func Valid(s string) bool {
	for at := 0; at < len(s); {
		c, n := Next(s, at)
		if c < 0 {
			return false
		}
		at += n
	}
	return true
}

// Count is how many code points s has, where a byte that belongs to none counts as one.
func Count(s string) int {
	count := 0
	for at := 0; at < len(s); count++ {
		_, n := Next(s, at)
		at += n
	}
	return count
}

// Put is the bytes of the code point c; "" if c is none.
func Put(c int) string {
	if !point(c) {
		return ""
	}
	n := length(c)
	var b [longest]byte
	for i := n - 1; i > 0; i-- {
		b[i] = 0x80 | byte(c&0x3F)
		c >>= 6
	}
	b[0] = heads[n] | byte(c)
	return string(b[:n])
}

// length is how many bytes the shortest form of the code point c has.
func length(c int) int {
	n := 1
	for n < longest && c >= least[n+1] {
		n++
	}
	return n
}
