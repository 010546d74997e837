package word

import (
	"strings"
	"testing"

	"galley/api"
)

// reserved are the chapter's words, all of them, in its order.
const reserved = "after and andalso band begin bnot bor bsl bsr bxor case catch div end fun if not of or orelse receive rem when xor"

// The bytes that names are made of, by what they begin.
const (
	small  = "abcdefghijklmnopqrstuvwxyz"
	great  = "ABCDEFGHIJKLMNOPQRSTUVWXYZ_"
	digits = "0123456789"
)

// is tells whether the byte c is one of those of s.
func is(c byte, s string) bool {
	return strings.IndexByte(s, c) >= 0
}

// listed are the reserved words as keys.
func listed() map[string]int {
	words := map[string]int{}
	for _, w := range strings.Fields(reserved) {
		words[w]++
	}
	return words
}

// 3.1 Reserved: each of the words.
func TestReserved(t *testing.T) {
	words := strings.Fields(reserved)
	if len(words) != 24 {
		t.Fatal(len(words))
	}
	for _, w := range words {
		if !Reserved(w) {
			t.Errorf("Reserved(%q): no", w)
		}
	}
}

// 3.1 Reserved: names, words that other languages or later versions of this one reserve, and texts that are none at all.
func TestReservedNone(t *testing.T) {
	for _, s := range []string{
		"", " ", "\n", "\x00", "a", "foo", "foo@bar1", "true", "false", "undefined", "ok",
		"maybe", "else", "try", "let", "cond", "query", "module", "export", "spec", "callback", "record", "define", "include",
		"then", "do", "while", "return", "func", "for", "is", "in", "elseif", "finally",
		"'end'", "'end", "end'", "end.", "end;", "%end", "?end", " end", "end ", "end\n", "end\x00", "\x00end", "\ufeffend",
		"of or", "or else", "and also", "afterand", "caseof", "2", "_", "_end", "end_", "end1", "end@", "é", "énd", "ｅｎｄ", "\xff", "\x80end",
		reserved, strings.Repeat("end", 1000), strings.Repeat("a", 1<<16),
	} {
		if Reserved(s) {
			t.Errorf("Reserved(%q): yes", s)
		}
	}
}

// 3.1 Reserved: case counts.
func TestReservedCase(t *testing.T) {
	for _, w := range strings.Fields(reserved) {
		for at := range len(w) {
			s := w[:at] + strings.ToUpper(w[at:at+1]) + w[at+1:]
			if Reserved(s) {
				t.Errorf("Reserved(%q): yes", s)
			}
		}
		if Reserved(strings.ToUpper(w)) {
			t.Errorf("Reserved(%q): yes", strings.ToUpper(w))
		}
	}
}

// 3.1 Reserved: what is one byte away from a word, put in, left out or another one, is one only if it stands in the list itself, as or does beside bor, xor and of.
func TestReservedNear(t *testing.T) {
	words := listed()
	hold := func(s string) {
		if Reserved(s) != (words[s] > 0) {
			t.Errorf("Reserved(%q): %v", s, Reserved(s))
		}
	}
	for w := range words {
		for at := range len(w) + 1 {
			for c := range 256 {
				hold(w[:at] + string([]byte{byte(c)}) + w[at:])
				if at < len(w) {
					hold(w[:at] + string([]byte{byte(c)}) + w[at+1:])
				}
			}
			if at < len(w) {
				hold(w[:at] + w[at+1:])
			}
			hold(w[:at])
			hold(w[at:])
		}
	}
}

// 3.1 Reserved: of all texts of up to four small letters those of the list.
func TestReservedShort(t *testing.T) {
	words := listed()
	var extend func(s string, left int)
	extend = func(s string, left int) {
		if Reserved(s) != (words[s] > 0) {
			t.Errorf("Reserved(%q): %v", s, Reserved(s))
		}
		if left == 0 {
			return
		}
		for at := range small {
			extend(s+small[at:at+1], left-1)
		}
	}
	extend("", 4)
}

// 3.1 Inner: of all bytes the letters and digits of ASCII, _ and @.
func TestInner(t *testing.T) {
	for x := range 256 {
		c := byte(x)
		if Inner(c) != is(c, small+great+digits+"@") {
			t.Errorf("Inner(%q): %v", c, Inner(c))
		}
	}
}

// 3.1 Inner, Begins: the bytes on both sides of each edge, and those that only look like letters or digits.
func TestEdges(t *testing.T) {
	for _, x := range []struct {
		c      byte
		begins int
		inner  bool
	}{
		{'`', 0, false}, {'a', api.TAtom, true}, {'z', api.TAtom, true}, {'{', 0, false},
		{'@', 0, true}, {'A', api.TVar, true}, {'Z', api.TVar, true}, {'[', 0, false},
		{'^', 0, false}, {'_', api.TVar, true},
		{'/', 0, false}, {'0', api.TInt, true}, {'9', api.TInt, true}, {':', 0, false},
		{'?', 0, false}, {'\'', 0, false}, {'"', 0, false}, {'$', 0, false}, {'.', 0, false}, {'-', 0, false},
		{0, 0, false}, {' ', 0, false}, {'\n', 0, false}, {127, 0, false},
		{0x80, 0, false}, {0xB2, 0, false}, {0xC0, 0, false}, {0xE1, 0, false}, {0xE9, 0, false}, {0xFA, 0, false}, {0xFF, 0, false},
	} {
		if k := Begins(x.c); k != x.begins {
			t.Errorf("Begins(%q): %d, not %d", x.c, k, x.begins)
		}
		if Inner(x.c) != x.inner {
			t.Errorf("Inner(%q): %v", x.c, !x.inner)
		}
	}
}

// 3.1 Begins: each byte.
func TestBegins(t *testing.T) {
	for x := range 256 {
		c, want := byte(x), 0
		switch {
		case is(c, small):
			want = api.TAtom
		case is(c, great):
			want = api.TVar
		case is(c, digits):
			want = api.TInt
		}
		if k := Begins(c); k != want {
			t.Errorf("Begins(%q): %d, not %d", c, k, want)
		}
	}
}

// 3.1 Plain: ordinary names, the edges, and what is none.
func TestPlain(t *testing.T) {
	for _, x := range []struct {
		name, s string
		plain   bool
	}{
		{"the chapter's name", "foo@bar1", true},
		{"the chapter's word", "end", false},
		{"one letter", "a", true},
		{"the last letter", "z", true},
		{"all kinds of bytes", "aZ_@09", true},
		{"great letters within", "fOO", true},
		{"_ at the end", "a_", true},
		{"@ at the end", "a@", true},
		{"a digit at the end", "a1", true},
		{"a module's name", "gen_server", true},
		{"a node's name", "foo@host", true},
		{"no reserved word: maybe", "maybe", true},
		{"no reserved word: true", "true", true},
		{"behind a reserved word", "end_", true},
		{"ahead of a reserved word", "bend", true},
		{"a reserved word with a great letter", "eND", true},
		{"a part of a reserved word", "o", true},
		{"a long one", strings.Repeat("a", 1<<16), true},
		{"no bytes", "", false},
		{"a variable", "Foo", false},
		{"a variable with _", "_foo", false},
		{"_ alone", "_", false},
		{"@ at the beginning", "@foo", false},
		{"a digit at the beginning", "1a", false},
		{"a number", "12", false},
		{"a point", "f.o", false},
		{"a minus", "foo-bar", false},
		{"a blank", "foo bar", false},
		{"a blank at the beginning", " foo", false},
		{"a blank at the end", "foo ", false},
		{"a newline at the end", "foo\n", false},
		{"the byte 0 at the end", "foo\x00", false},
		{"between '", "'foo'", false},
		{"a macro", "?foo", false},
		{"a remote name", "m:f", false},
		{"a reference", "f/1", false},
		{"a letter of two bytes", "é", false},
		{"a letter of two bytes within", "größe", false},
		{"a letter of three bytes", "ａ", false},
		{"no code point", "a\xff", false},
		{"the last byte alone is wrong", strings.Repeat("a", 1<<16) + "!", false},
	} {
		if Plain(x.s) != x.plain {
			t.Errorf("%s: Plain(%.20q): %v", x.name, x.s, !x.plain)
		}
	}
}

// 3.1 Plain: no reserved word is; what is one sign longer is.
func TestPlainReserved(t *testing.T) {
	for _, w := range strings.Fields(reserved) {
		if Plain(w) {
			t.Errorf("Plain(%q): yes", w)
		}
		for _, c := range "Z_@0" {
			if !Plain(w + string(c)) {
				t.Errorf("Plain(%q): no", w+string(c))
			}
		}
	}
}

// 3.1 Plain: every text of two bytes, and every byte at each place of a longer one.
func TestPlainBytes(t *testing.T) {
	words := listed()
	inner := small + great + digits + "@"
	for x := range 256 {
		for y := range 256 {
			s := string([]byte{byte(x), byte(y)})
			want := is(s[0], small) && is(s[1], inner) && words[s] == 0
			if Plain(s) != want {
				t.Errorf("Plain(%q): %v", s, !want)
			}
		}
	}
	const name = "fooBar_1@x"
	for at := range name {
		for x := range 256 {
			c := byte(x)
			want := is(c, inner)
			if at == 0 {
				want = is(c, small)
			}
			s := name[:at] + string([]byte{c}) + name[at+1:]
			if Plain(s) != want {
				t.Errorf("Plain(%q): %v", s, !want)
			}
		}
	}
}
