package place

import (
	"math"
	"slices"
	"strings"
	"testing"

	"galley/api"
	"galley/utf"
)

// texts are ordinary ones, and the edges: no bytes, no byte 10 at the end, lines without bytes, what ends no line, and bytes that are no code points.
var texts = []struct {
	name, s string
	lines   []int
}{
	{"no bytes", "", []int{0}},
	{"one line", "a", []int{0}},
	{"the chapter's", "a\nb\n", []int{0, 2, 4}},
	{"no byte 10 at the end", "a\nb", []int{0, 2}},
	{"a byte 10 alone", "\n", []int{0, 1}},
	{"bytes 10 alone", "\n\n\n", []int{0, 1, 2, 3}},
	{"a line without bytes", "a\n\nb", []int{0, 2, 3}},
	{"a byte 10 ahead", "\na", []int{0, 1}},
	{"13 and 10 end one line", "a\r\nb\r\n", []int{0, 3, 6}},
	{"13 alone ends none", "a\rb\r", []int{0}},
	{"10 and 13", "a\n\rb", []int{0, 2}},
	{"9, 11, 12 end none", "a\tb\vc\fd", []int{0}},
	{"0085, 2028, 2029 end none", "a\u0085b\u2028c\u2029d", []int{0}},
	{"the byte 0", "\x00\n\x00", []int{0, 2}},
	{"010A is no byte 10", "\u010a\n\u0a0a\n", []int{0, 3, 7}},
	{"two bytes", "é\né", []int{0, 3}},
	{"four bytes", "𝄞\n𝄞𝄞\n", []int{0, 5, 14}},
	{"no code points", "\xff\n\x80\n", []int{0, 2, 4}},
	{"cut off by a byte 10", "\xe2\x82\n\xac", []int{0, 3}},
	{"a module", "-module(a).\n\nf() ->\n    ok.\n", []int{0, 12, 13, 20, 28}},
}

// below are places and lines below 0; beyond are some behind the end of each of the texts.
var below = []int{-1, -2, -10, math.MinInt32, math.MinInt + 1, math.MinInt}
var beyond = []int{100, 1 << 20, math.MaxInt32, math.MaxInt - 1, math.MaxInt}

// 2.1 Lines: 0, and behind each byte 10.
func TestLines(t *testing.T) {
	for _, x := range texts {
		if l := Lines(x.s); !slices.Equal(l, x.lines) {
			t.Errorf("%s: Lines(%q): %v, not %v", x.name, x.s, l, x.lines)
		}
	}
}

// 2.1 Ends: the bytes 10, and no others.
func TestEnds(t *testing.T) {
	for _, x := range texts {
		if n := Ends(x.s); n != len(x.lines)-1 {
			t.Errorf("%s: Ends(%q): %d, not %d", x.name, x.s, n, len(x.lines)-1)
		}
	}
}

// 2.1 Line: a byte 10 stands in the line that it ends, what is behind it in the next one.
func TestLine(t *testing.T) {
	for _, x := range []struct {
		s        string
		at, line int
	}{
		{"", 0, 1}, {"a", 0, 1}, {"a", 1, 1},
		{"a\nb\n", 0, 1}, {"a\nb\n", 1, 1}, {"a\nb\n", 2, 2}, {"a\nb\n", 3, 2}, {"a\nb\n", 4, 3},
		{"\n", 0, 1}, {"\n", 1, 2},
		{"\n\n\n", 0, 1}, {"\n\n\n", 1, 2}, {"\n\n\n", 2, 3}, {"\n\n\n", 3, 4},
		{"a\r\nb", 1, 1}, {"a\r\nb", 2, 1}, {"a\r\nb", 3, 2},
		{"é\né", 1, 1}, {"é\né", 2, 1}, {"é\né", 3, 2}, {"é\né", 4, 2}, {"é\né", 5, 2},
	} {
		if n := Line(x.s, x.at); n != x.line {
			t.Errorf("Line(%q, %d): %d, not %d", x.s, x.at, n, x.line)
		}
	}
}

// 2.1 Column: code points, not bytes; of its own line alone.
func TestColumn(t *testing.T) {
	for _, x := range []struct {
		name, s    string
		at, column int
	}{
		{"no bytes", "", 0, 0},
		{"the beginning", "abc", 0, 0},
		{"letters", "abc", 2, 2},
		{"the end", "abc", 3, 3},
		{"the byte 10", "abc\nde", 3, 3},
		{"behind it", "abc\nde", 4, 0},
		{"the second line", "abc\nde", 6, 2},
		{"behind the last byte 10", "abc\n", 4, 0},
		{"a line without bytes", "abc\n\nd", 4, 0},
		{"13 counts", "a\r\nb", 2, 2},
		{"a tab counts one", "\t\ta", 2, 2},
		{"two bytes", "é = é", 5, 4},
		{"two bytes in the line ahead", "éé\nab", 6, 1},
		{"three bytes", "a\n€€b", 8, 2},
		{"four bytes", "a\n𝄞𝄞b", 10, 2},
		{"a wide sign counts one", "日本a", 6, 2},
		{"a mark counts one", "e\u0301a", 3, 2},
		{"no code points", "\n\xff\x80a", 3, 2},
		{"cut off", "\n\xe2\x82a", 3, 2},
		{"inside of a code point: one of two bytes", "aé", 2, 2},
		{"inside of a code point: three of four bytes", "a𝄞", 4, 4},
		{"behind it", "a𝄞", 5, 2},
	} {
		if n := Column(x.s, x.at); n != x.column {
			t.Errorf("%s: Column(%q, %d): %d, not %d", x.name, x.s, x.at, n, x.column)
		}
	}
}

// 2.1 Line, Column: a place below 0 is 0, one above the length is the length.
func TestOutside(t *testing.T) {
	for _, x := range texts {
		for _, at := range below {
			if n, c := Line(x.s, at), Column(x.s, at); n != 1 || c != 0 {
				t.Errorf("%s: %q at %d: %d %d", x.name, x.s, at, n, c)
			}
		}
		line := len(x.lines)
		column := utf.Count(x.s[x.lines[line-1]:])
		for _, at := range append([]int{len(x.s), len(x.s) + 1}, beyond...) {
			if n, c := Line(x.s, at), Column(x.s, at); n != line || c != column {
				t.Errorf("%s: %q at %d: %d %d, not %d %d", x.name, x.s, at, n, c, line, column)
			}
		}
	}
}

// 2.1 Start: where each line begins; also one behind the last byte 10.
func TestStart(t *testing.T) {
	for _, x := range texts {
		for k, want := range x.lines {
			if at, e := Start(x.s, k+1); at != want || e != api.OK {
				t.Errorf("%s: Start(%q, %d): %d %d, not %d", x.name, x.s, k+1, at, e, want)
			}
		}
	}
}

// 2.1 Start: ErrRange beside 0 of a line that there is not.
func TestStartNone(t *testing.T) {
	for _, x := range texts {
		none := append([]int{0, len(x.lines) + 1, len(x.lines) + 2}, below...)
		for _, line := range append(none, beyond...) {
			if at, e := Start(x.s, line); at != 0 || e != api.ErrRange {
				t.Errorf("%s: Start(%q, %d): %d %d", x.name, x.s, line, at, e)
			}
		}
	}
}

// 2.1: every text of up to six parts, at every place, as the chapter's words count.
func TestAll(t *testing.T) {
	parts := []string{"\n", "a", "\r", "é", "\x82"}
	var extend func(s string, left int)
	extend = func(s string, left int) {
		counted(t, s)
		if left == 0 {
			return
		}
		for _, p := range parts {
			extend(s+p, left-1)
		}
	}
	extend("", 6)
}

// counted holds all that is told of s against a count from its beginning on.
func counted(t *testing.T, s string) {
	t.Helper()
	lines := []int{0}
	for at := -1; at <= len(s)+1; at++ {
		begin := lines[len(lines)-1]
		place := min(max(at, 0), len(s))
		if n, c := Line(s, at), Column(s, at); n != len(lines) || c != utf.Count(s[begin:place]) {
			t.Fatalf("%q at %d: %d %d, not %d %d", s, at, n, c, len(lines), utf.Count(s[begin:place]))
		}
		if at >= 0 && at < len(s) && s[at] == 10 {
			lines = append(lines, at+1)
		}
	}
	if !slices.Equal(Lines(s), lines) || Ends(s) != len(lines)-1 {
		t.Fatalf("%q: %v %d, not %v", s, Lines(s), Ends(s), lines)
	}
	for k, begin := range lines {
		if at, e := Start(s, k+1); at != begin || e != api.OK {
			t.Fatalf("Start(%q, %d): %d %d, not %d", s, k+1, at, e, begin)
		}
	}
	if at, e := Start(s, len(lines)+1); at != 0 || e != api.ErrRange {
		t.Fatalf("Start(%q, %d): %d %d", s, len(lines)+1, at, e)
	}
}

// 2.1: each number of lines up to some hundred, of unlike lengths, so that every way of halving is gone.
func TestHalves(t *testing.T) {
	s, lines := "", []int{}
	for k := range 130 {
		lines = append(lines, len(s))
		s += strings.Repeat("é", k*k%7)
		for at := range len(s) + 1 {
			line, begin := 0, 0
			for line < len(lines) && lines[line] <= at {
				begin = lines[line]
				line++
			}
			if n, c := Line(s, at), Column(s, at); n != line || c != utf.Count(s[begin:at]) {
				t.Fatalf("%d lines, at %d: %d %d, not %d %d", k+1, at, n, c, line, utf.Count(s[begin:at]))
			}
		}
		s += "\n"
	}
}

// 2.1: a text as long as the formatter takes, with lines alone, and with one line alone.
func TestLong(t *testing.T) {
	s := strings.Repeat("\n", api.MaxBytes)
	l := Lines(s)
	if len(l) != api.MaxBytes+1 || Ends(s) != api.MaxBytes {
		t.Fatal(len(l), Ends(s))
	}
	for k, at := range l {
		if at != k {
			t.Fatal(k, at)
		}
	}
	for _, at := range []int{0, 1, 2, api.MaxBytes / 2, api.MaxBytes - 1, api.MaxBytes} {
		if Line(s, at) != at+1 || Column(s, at) != 0 {
			t.Error(at, Line(s, at), Column(s, at))
		}
		if begin, e := Start(s, at+1); begin != at || e != api.OK {
			t.Error(at, begin, e)
		}
	}
	s = strings.Repeat("a", api.MaxBytes)
	if len(Lines(s)) != 1 || Ends(s) != 0 || Line(s, len(s)) != 1 || Column(s, len(s)) != len(s) {
		t.Error(len(Lines(s)), Ends(s), Line(s, len(s)), Column(s, len(s)))
	}
}

// 2.1 Lines: what is answered is the caller's own.
func TestOwn(t *testing.T) {
	s := "a\nb\n"
	l := Lines(s)
	for k := range l {
		l[k] = 99
	}
	_ = append(l[:1], 98, 97)
	if m := Lines(s); !slices.Equal(m, []int{0, 2, 4}) {
		t.Error(m)
	}
	if Line(s, 3) != 2 || Column(s, 3) != 1 {
		t.Error(Line(s, 3), Column(s, 3))
	}
}

// 2.2: a place has the line that an editor shows for it, and the column less the one that editors begin with; there and back is the same place.
func TestEditors(t *testing.T) {
	s := "-module(größe).\r\n-export([f/1]).\n\n%% tut nichts – gar nichts\nf(X) ->\n\t{ok, '日本', X}.\n"
	for _, x := range []struct {
		name, what   string
		line, column int
	}{
		{"the first line", "-module", 1, 0},
		{"behind two bytes", "ße)", 1, 11},
		{"13 ahead of 10", "\r\n", 1, 15},
		{"behind 13 and 10", "-export", 2, 0},
		{"within a line", "f/1", 2, 9},
		{"a line without bytes counts", "%%", 4, 0},
		{"behind three bytes", "gar", 4, 16},
		{"a tab is one sign", "{ok", 6, 1},
		{"a wide sign is one sign", "X}", 6, 12},
	} {
		at := strings.Index(s, x.what)
		if n, c := Line(s, at), Column(s, at); n != x.line || c != x.column {
			t.Errorf("%s: %d %d, not %d %d", x.name, n, c, x.line, x.column)
		}
		begin, e := Start(s, x.line)
		if e != api.OK || utf.Count(s[begin:at]) != x.column {
			t.Errorf("%s: Start: %d %d", x.name, begin, e)
		}
	}
	if n, c := Line(s, len(s)), Column(s, len(s)); n != 7 || c != 0 {
		t.Errorf("behind the last byte 10: %d %d", n, c)
	}
}
