package utf

import (
	"math"
	"strings"
	"testing"
	"unicode/utf8"
)

// edges are the code points on both sides of each change of length, of the gap D800 to DFFF, and of the end; each with its bytes.
var edges = []struct {
	c int
	s string
}{
	{0x00, "\x00"},
	{0x01, "\x01"},
	{'a', "a"},
	{0x7F, "\x7f"},
	{0x80, "\xc2\x80"},
	{0xE9, "\xc3\xa9"},
	{0x7FF, "\xdf\xbf"},
	{0x800, "\xe0\xa0\x80"},
	{0x20AC, "\xe2\x82\xac"},
	{0xD7FF, "\xed\x9f\xbf"},
	{0xE000, "\xee\x80\x80"},
	{0xFEFF, "\xef\xbb\xbf"},
	{0xFFFD, "\xef\xbf\xbd"},
	{0xFFFE, "\xef\xbf\xbe"},
	{0xFFFF, "\xef\xbf\xbf"},
	{0x10000, "\xf0\x90\x80\x80"},
	{0x1D11E, "\xf0\x9d\x84\x9e"},
	{0x10FFFF, "\xf4\x8f\xbf\xbf"},
}

// wrong are texts in which no byte belongs to a code point.
var wrong = []struct{ name, s string }{
	{"not the shortest form: 0 in two", "\xc0\x80"},
	{"not the shortest form: 2F in two", "\xc0\xaf"},
	{"not the shortest form: 7F in two", "\xc1\xbf"},
	{"not the shortest form: 0 in three", "\xe0\x80\x80"},
	{"not the shortest form: 7FF in three", "\xe0\x9f\xbf"},
	{"not the shortest form: 0 in four", "\xf0\x80\x80\x80"},
	{"not the shortest form: FFFF in four", "\xf0\x8f\xbf\xbf"},
	{"D800", "\xed\xa0\x80"},
	{"DBFF", "\xed\xaf\xbf"},
	{"DC00", "\xed\xb0\x80"},
	{"DFFF", "\xed\xbf\xbf"},
	{"a pair of D834 and DD1E", "\xed\xa0\xb4\xed\xb4\x9e"},
	{"110000", "\xf4\x90\x80\x80"},
	{"140000", "\xf5\x80\x80\x80"},
	{"1FFFFF", "\xf7\xbf\xbf\xbf"},
	{"five bytes", "\xf8\x88\x80\x80\x80"},
	{"six bytes", "\xfc\x84\x80\x80\x80\x80"},
	{"FE", "\xfe"},
	{"FF", "\xff"},
	{"no head: 80", "\x80"},
	{"no head: BF", "\xbf"},
	{"cut off: one of two", "\xc3"},
	{"cut off: one of three", "\xe2"},
	{"cut off: two of three", "\xe2\x82"},
	{"cut off: one of four", "\xf0"},
	{"cut off: two of four", "\xf0\x9d"},
	{"cut off: three of four", "\xf0\x9d\x84"},
}

// 1.1 Next: what begins there, wherever in a text.
func TestNext(t *testing.T) {
	for _, e := range edges {
		for _, ahead := range []string{"", "a", "é", "\xff"} {
			for _, behind := range []string{"", "a", "é", "\xff", "\x80"} {
				c, n := Next(ahead+e.s+behind, len(ahead))
				if c != e.c || n != len(e.s) {
					t.Errorf("Next(%q + %q + %q): %x %d", ahead, e.s, behind, c, n)
				}
			}
		}
	}
	if c, n := Next("aé", 1); c != 233 || n != 2 {
		t.Errorf("Next(aé, 1): %x %d", c, n)
	}
}

// 1.1 Next: bytes that are not UTF-8 are told one by one.
func TestNextWrong(t *testing.T) {
	for _, w := range wrong {
		for at := range len(w.s) {
			if c, n := Next(w.s, at); c != -1 || n != 1 {
				t.Errorf("%s: Next(%x, %d): %x %d", w.name, w.s, at, c, n)
			}
		}
		if c, n := Next(w.s+"a", 0); c != -1 || n != 1 {
			t.Errorf("%s, and a: %x %d", w.name, c, n)
		}
		if c, n := Next(w.s+"a", len(w.s)); c != 'a' || n != 1 {
			t.Errorf("%s: a behind: %x %d", w.name, c, n)
		}
	}
	for at := 1; at < 4; at++ {
		if c, n := Next("𝄞", at); c != -1 || n != 1 {
			t.Errorf("inside of a code point, at %d: %x %d", at, c, n)
		}
	}
	if c, n := Next("\xe2a\x82", 0); c != -1 || n != 1 {
		t.Errorf("a letter inside: %x %d", c, n)
	}
	if c, n := Next("\xe2\xc3\xa9", 0); c != -1 || n != 1 {
		t.Errorf("another head inside: %x %d", c, n)
	}
}

// 1.1 Next: at the end, beyond, below 0.
func TestNextOutside(t *testing.T) {
	for _, s := range []string{"", "a", "é", "\xff", "\xe2\x82"} {
		for _, at := range []int{len(s), len(s) + 1, len(s) + 7, math.MaxInt32, math.MaxInt, -1, -2, math.MinInt32, math.MinInt} {
			if c, n := Next(s, at); c != 0 || n != 0 {
				t.Errorf("Next(%q, %d): %x %d", s, at, c, n)
			}
		}
	}
	if c, n := Next("\x00", 0); c != 0 || n != 1 {
		t.Errorf("the code point 0 is no end: %x %d", c, n)
	}
}

// 1.1 Next: each text of up to three bytes, and of four at each edge of a byte's meaning, as the library reads it.
func TestNextAll(t *testing.T) {
	bytes := []byte{0x00, 0x7F, 0x80, 0x8F, 0x90, 0x9F, 0xA0, 0xBF, 0xC0, 0xC2, 0xE0, 0xF0, 0xFF}
	for x := range 256 {
		same(t, string([]byte{byte(x)}))
		for y := range 256 {
			same(t, string([]byte{byte(x), byte(y)}))
			for z := range 256 {
				same(t, string([]byte{byte(x), byte(y), byte(z)}))
			}
			for _, z := range bytes {
				for _, last := range bytes {
					same(t, string([]byte{byte(x), byte(y), z, last}))
				}
			}
		}
	}
}

// same holds what Next tells of s against what the library tells.
func same(t *testing.T, s string) {
	r, size := utf8.DecodeRuneInString(s)
	want := int(r)
	if r == utf8.RuneError && size == 1 {
		want = -1
	}
	if c, n := Next(s, 0); c != want || n != size {
		t.Fatalf("Next(%x): %x %d, not %x %d", s, c, n, want, size)
	}
}

// 1.1 Valid: all of it.
func TestValid(t *testing.T) {
	for _, s := range []string{"", "a", "aé𝄞", "-module(a).\n", "\x00\x7f\u0080", "\ufeff\ufffd\uffff\U0010ffff", strings.Repeat("€", 1000)} {
		if !Valid(s) {
			t.Errorf("Valid(%q)", s)
		}
	}
	for _, e := range edges {
		if !Valid(e.s) || !Valid(e.s+e.s) {
			t.Errorf("Valid(%x)", e.s)
		}
	}
	for _, w := range wrong {
		for _, s := range []string{w.s, "a" + w.s, w.s + "a", "é" + w.s + "é", strings.Repeat("€", 1000) + w.s} {
			if Valid(s) {
				t.Errorf("%s: Valid(%q)", w.name, s)
			}
		}
	}
}

// 1.1 Count: code points, and bytes that are none one by one.
func TestCount(t *testing.T) {
	for _, x := range []struct {
		s string
		n int
	}{
		{"", 0}, {"a", 1}, {"aé", 2}, {"aé𝄞", 3}, {"\x00", 1}, {"a\r\nb", 4},
		{"\xe2\x82a", 3}, {"é\x80é", 3}, {"\xc3\xc3\xa9", 2}, {"\xed\xa0\x80é", 4}, {"\xe2\x82\xac\xac", 2},
		{strings.Repeat("€", 1000), 1000},
	} {
		if n := Count(x.s); n != x.n {
			t.Errorf("Count(%q): %d, not %d", x.s, n, x.n)
		}
	}
	for _, w := range wrong {
		if n := Count(w.s); n != len(w.s) {
			t.Errorf("%s: Count(%x): %d", w.name, w.s, n)
		}
	}
}

// 1.1 Put: the bytes of what is a code point.
func TestPut(t *testing.T) {
	for _, e := range edges {
		if s := Put(e.c); s != e.s {
			t.Errorf("Put(%x): %x, not %x", e.c, s, e.s)
		}
	}
	for c := range 0x110000 {
		s := Put(c)
		if c >= 0xD800 && c <= 0xDFFF {
			if s != "" {
				t.Fatalf("Put(%x): %x", c, s)
			}
			continue
		}
		if s != string(rune(c)) {
			t.Fatalf("Put(%x): %x", c, s)
		}
		if d, n := Next(s, 0); d != c || n != len(s) || !Valid(s) || Count(s) != 1 {
			t.Fatalf("Next(Put(%x)): %x %d", c, d, n)
		}
	}
}

// 1.1 Put: what is no code point has no bytes, also where its lower bits look like one.
func TestPutNone(t *testing.T) {
	for _, c := range []int{0xD800, 0xDABC, 0xDFFF, 0x110000, 0x110041, 0x1FFFFF, math.MaxInt32, math.MaxInt, -1, -65, math.MinInt32, math.MinInt, math.MinInt + 'a'} {
		if s := Put(c); s != "" {
			t.Errorf("Put(%x): %x", c, s)
		}
	}
}

// 1.2: a column is a count of code points, whatever their bytes, their halves elsewhere, or their looks.
func TestColumns(t *testing.T) {
	for _, x := range []struct {
		name, ahead string
		column      int
	}{
		{"letters", "f(X) ", 5},
		{"two bytes", "Größe = ", 8},
		{"three bytes", "\"€€\", ", 6},
		{"four bytes", "\"𝄞𝄞\", ", 6},
		{"wide ones", "'日本' = ", 7},
		{"a mark over a letter", "e\u0301 = ", 5},
		{"a tab", "\tX = ", 5},
		{"no code points", "\xe2\x82 = ", 5},
	} {
		if n := Count(x.ahead); n != x.column {
			t.Errorf("%s: %d, not %d", x.name, n, x.column)
		}
	}
}
