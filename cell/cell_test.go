package cell

import (
	"math"
	"strings"
	"testing"
	"unicode/utf8"
	"unsafe"
)

// pieces are what short texts are put together from: what begins a comment, the blanks, what ends a line, and what only looks so; letters of one byte up to four, and bytes that are none.
var pieces = []string{"%", " ", "\t", "\r", "\n", "\v", "a", "é", "\u010a", "\u0120", "\u00a0", "\u2028", "𝄞", "\x00", "\xff", "\xe2\x82", "\x80"}

// each calls do with every text of at most n of the pieces.
func each(n int, do func(s string)) {
	var extend func(s string, left int)
	extend = func(s string, left int) {
		do(s)
		if left == 0 {
			return
		}
		for _, x := range pieces {
			extend(s+x, left-1)
		}
	}
	extend("", n)
}

// 12.1 Width: code points, and bytes that are none one by one.
func TestWidth(t *testing.T) {
	for _, x := range []struct {
		name, s string
		n       int
	}{
		{"no bytes", "", 0},
		{"the chapter's", "aé", 2},
		{"one", "a", 1},
		{"two bytes", "é", 1},
		{"three bytes", "€", 1},
		{"four bytes", "𝄞", 1},
		{"a wide sign counts one", "日本", 2},
		{"a mark counts one", "e\u0301", 2},
		{"what is not seen counts one", "\u200b\u2060\ufeff", 3},
		{"a tab counts one", "\ta", 2},
		{"what ends a line counts one", "a\r\nb\n", 5},
		{"the byte 0", "\x00\x00", 2},
		{"no code points", "\xff\x80", 2},
		{"cut off", "a\xe2\x82", 3},
		{"cut off by a letter", "\xf0\x9da", 3},
		{"half of a pair", "\xed\xa0\x80", 3},
		{"not the shortest form", "\xc0\xaf", 2},
		{"above 10FFFF", "\xf4\x90\x80\x80", 4},
		{"long", strings.Repeat("€", 1<<16), 1 << 16},
	} {
		if n := Width(x.s); n != x.n {
			t.Errorf("%s: Width(%q): %d, not %d", x.name, x.s, n, x.n)
		}
	}
	each(4, func(s string) {
		if n := Width(s); n != utf8.RuneCountInString(s) {
			t.Fatalf("Width(%q): %d", s, n)
		}
	})
}

// 12.1 Last: behind the last byte 10 the Width of what follows, else col and the Width.
func TestLast(t *testing.T) {
	for _, x := range []struct {
		name, s   string
		col, want int
	}{
		{"the chapter's", "ab\ncd", 7, 2},
		{"no bytes", "", 7, 7},
		{"no bytes in column 0", "", 0, 0},
		{"letters", "abc", 0, 3},
		{"letters further right", "abc", 7, 10},
		{"two bytes", "é", 7, 8},
		{"four bytes", "𝄞a", 7, 9},
		{"a byte 10 alone", "\n", 7, 0},
		{"a byte 10 at the end", "a\n", 3, 0},
		{"a byte 10 ahead", "\na", 3, 1},
		{"the last one of three", "a\nbb\nccc\ndddd", 7, 4},
		{"the last one of two, at the end", "a\nbb\n", 7, 0},
		{"two in a row", "abc\n\nd", 7, 1},
		{"two bytes behind it", "abc\né", 7, 1},
		{"no code points behind it", "abc\n\xff\xe2\x82", 7, 3},
		{"cut off by it", "\xe2\x82\n\xac", 7, 1},
		{"13 ends no line", "a\rb", 7, 10},
		{"13 and 10 end one", "ab\r\nc", 7, 1},
		{"11, 12, 0085, 2028, 2029 end none", "\v\f\u0085\u2028\u2029", 7, 12},
		{"010A is no byte 10", "\u010a\u0a0a", 7, 9},
		{"the escape is no byte 10", `a\nb`, 7, 11},
	} {
		if n := Last(x.s, x.col); n != x.want {
			t.Errorf("%s: Last(%q, %d): %d, not %d", x.name, x.s, x.col, n, x.want)
		}
	}
}

// 12.1 Last: as the chapter's words say, of all short texts.
func TestLastAll(t *testing.T) {
	each(3, func(s string) {
		begin := strings.LastIndexByte(s, 10) + 1
		width := utf8.RuneCountInString(s[begin:])
		for _, col := range []int{0, 1, 7, 10000, -1, -7, math.MinInt} {
			want := col + width
			if begin > 0 {
				want = width
			}
			if n := Last(s, col); n != want {
				t.Fatalf("Last(%q, %d): %d, not %d", s, col, n, want)
			}
		}
	})
}

// 12.1 Last: one part behind the other is the same as all at once.
func TestLastParts(t *testing.T) {
	// Of parts that are texts: halves of a code point count otherwise than all of it.
	s := "a\né𝄞\n\nbc\r\n  d"
	for _, col := range []int{0, 7, -3} {
		for at := range s {
			if n := Last(s[at:], Last(s[:at], col)); n != Last(s, col) {
				t.Errorf("%q, %q from %d: %d, not %d", s[:at], s[at:], col, n, Last(s, col))
			}
		}
	}
}

// 12.1 Last: columns in their whole range.
func TestLastRange(t *testing.T) {
	for _, col := range []int{math.MinInt, math.MinInt + 1, math.MinInt32, -1, 0, 1, math.MaxInt32, math.MaxInt - 1, math.MaxInt} {
		if n := Last("", col); n != col {
			t.Errorf("no bytes: %d, not %d", n, col)
		}
		for _, s := range []string{"\nab", "abc\nab", strings.Repeat("a", 1000) + "\nab"} {
			if n := Last(s, col); n != 2 {
				t.Errorf("Last(%q, %d): %d", s, col, n)
			}
		}
	}
	if n := Last("ab", math.MaxInt-2); n != math.MaxInt {
		t.Errorf("up to the greatest number: %d", n)
	}
	if n := Last("ab", math.MinInt); n != math.MinInt+2 {
		t.Errorf("the smallest number: %d", n)
	}
}

// 12.1 Indent: as many blanks 32 as are asked for, none below 1, at most 20,000.
func TestIndent(t *testing.T) {
	for n := 0; n <= 20000; n++ {
		if s := Indent(n); len(s) != n || strings.Trim(s, " ") != "" {
			t.Fatalf("Indent(%d): %d bytes", n, len(s))
		}
	}
	if s := Indent(3); s != "   " {
		t.Errorf("Indent(3): %q", s)
	}
	for _, n := range []int{-1, -2, -4, -20000, -20001, math.MinInt32, math.MinInt + 1, math.MinInt} {
		if s := Indent(n); s != "" {
			t.Errorf("Indent(%d): %d bytes", n, len(s))
		}
	}
	for _, n := range []int{20001, 20002, 40000, 1 << 30, math.MaxInt32, math.MaxInt - 1, math.MaxInt} {
		if s := Indent(n); s != strings.Repeat(" ", 20000) {
			t.Errorf("Indent(%d): %d bytes", n, len(s))
		}
	}
}

// 12.1 Trim: without the blanks at the end, and those alone.
func TestTrim(t *testing.T) {
	for _, x := range []struct{ name, s, want string }{
		{"no bytes", "", ""},
		{"no blanks", "a", "a"},
		{"a blank", "a ", "a"},
		{"the three", "a \t\r ", "a"},
		{"a blank alone", " ", ""},
		{"blanks alone", "\r\t \t\r", ""},
		{"blanks ahead", " \t\ra", " \t\ra"},
		{"blanks ahead and at the end", "  a  ", "  a"},
		{"blanks between", "a \tb ", "a \tb"},
		{"10 is none of them", "a\n", "a\n"},
		{"10 holds what is ahead of it", "a \n", "a \n"},
		{"behind 10", "a \n ", "a \n"},
		{"11, 12", "a\v\f", "a\v\f"},
		{"the byte 0", "a\x00 ", "a\x00"},
		{"00A0", "a\u00a0 ", "a\u00a0"},
		{"0085", "a\u0085", "a\u0085"},
		{"2003, 3000", "a\u2003\u3000", "a\u2003\u3000"},
		{"0120, 0109, 010D", "\u0120\u0109\u010d", "\u0120\u0109\u010d"},
		{"four bytes", "𝄞 ", "𝄞"},
		{"no code points", "\xff\x80 ", "\xff\x80"},
		{"A0 alone", "a\xa0", "a\xa0"},
		{"cut off", "\xe2\x82 ", "\xe2\x82"},
		{"long", "%" + strings.Repeat(" \t\r", 1<<16), "%"},
		{"long, blanks alone", strings.Repeat(" ", 1<<16), ""},
	} {
		if s := Trim(x.s); s != x.want {
			t.Errorf("%s: Trim(%q): %q", x.name, x.s, s)
		}
	}
	each(4, func(s string) {
		if got := Trim(s); got != strings.TrimRight(s, " \t\r") || Trim(got) != got {
			t.Fatalf("Trim(%q): %q", s, got)
		}
	})
}

// 12.1 Trim: of all bytes three are blanks.
func TestTrimBytes(t *testing.T) {
	for c := range 256 {
		s := "a" + string([]byte{byte(c)})
		want := s
		if c == 32 || c == 9 || c == 13 {
			want = "a"
		}
		if got := Trim(s); got != want {
			t.Errorf("Trim(%q): %q", s, got)
		}
	}
}

// 12.1 Note: it begins with %, has no byte 10, and is its Trim.
func TestNote(t *testing.T) {
	for _, s := range []string{
		"%", "%%", "%%%", "% a", "%a", "%\ta", "% a  b", "%\r%", "%é", "%𝄞", "%% -- %%", "%\"", "%'",
		"%\v", "%\f", "%\x00", "%\u00a0", "%\u0085", "%\u2028", "%\u010a", "%\u0120", "%\xff", "%\xe2\x82", `%\n`,
		"%" + strings.Repeat(" a", 1<<16),
	} {
		if !Note(s) {
			t.Errorf("Note(%q): no", s)
		}
	}
	for _, s := range []string{
		"", " ", "\n", "a", "a%", "a %b", " %", " % a", "\t%", "\n%", "\r%", "\x00%", "\ufeff%", "％", "\xff%", "#a", "//a",
		"% a ", "% ", "%\t", "%\r", "% \t\r ", "% a\r", "% a\t", "%é ",
		"%\n", "%a\n", "%a\nb", "%a\n%b", "%a\r\n", "%\n%", "%\n\n", "%a \nb", "%a\n ",
		"%" + strings.Repeat(" ", 1<<16), "%\n" + strings.Repeat("a", 1<<16),
	} {
		if Note(s) {
			t.Errorf("Note(%q): yes", s)
		}
	}
	each(4, func(s string) {
		want := strings.HasPrefix(s, "%") && !strings.Contains(s, "\n") && s == strings.TrimRight(s, " \t\r")
		if Note(s) != want {
			t.Fatalf("Note(%q): %v", s, !want)
		}
	})
}

// 12.1 Note: each byte as what begins a text, stands within one, and ends one.
func TestNoteBytes(t *testing.T) {
	for c := range 256 {
		x := string([]byte{byte(c)})
		if Note(x+"a") != (c == '%') {
			t.Errorf("Note(%q)", x+"a")
		}
		if Note("%"+x+"a") != (c != 10) {
			t.Errorf("Note(%q)", "%"+x+"a")
		}
		if Note("%"+x) != (c != 10 && c != 9 && c != 13 && c != 32) {
			t.Errorf("Note(%q)", "%"+x)
		}
	}
}

// Rules 2 and 3: the same call gives the same answer, and what Trim answers is no piece of what was handed in.
func TestOwn(t *testing.T) {
	for _, s := range []string{"a", "a ", "% a \t\r", " é\n𝄞 "} {
		got := Trim(s)
		if got != Trim(s) || Last(s, 7) != Last(s, 7) || Note(s) != Note(s) || Width(s) != Width(s) {
			t.Errorf("%q: two answers", s)
		}
		from := uintptr(unsafe.Pointer(unsafe.StringData(s)))
		at := uintptr(unsafe.Pointer(unsafe.StringData(got)))
		if at < from+uintptr(len(s)) && from < at+uintptr(len(got)) {
			t.Errorf("Trim(%q) shares bytes with it", s)
		}
	}
}
