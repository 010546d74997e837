package lit

import (
	"math"
	"math/big"
	"regexp"
	"slices"
	"strconv"
	"strings"
	"testing"
	"unicode/utf8"

	"galley/api"
)

// texts calls hold with each text of up to most of the parts.
func texts(parts []string, most int, hold func(s string)) {
	var extend func(s string, left int)
	extend = func(s string, left int) {
		hold(s)
		if left == 0 {
			return
		}
		for _, p := range parts {
			extend(s+p, left-1)
		}
	}
	extend("", most)
}

// 4.1: ordinary integers, with _ and with bases, and the edges of their value.
func TestInteger(t *testing.T) {
	for _, x := range []struct {
		name, s string
		value   uint64
	}{
		{"the chapter's", "16#FF", 255},
		{"nothing", "0", 0},
		{"one digit", "7", 7},
		{"digits", "1234567890", 1234567890},
		{"0 ahead is no other base", "010", 10},
		{"many 0 ahead", strings.Repeat("0", 1000) + "12", 12},
		{"_ between digits", "1_000_000", 1000000},
		{"_ between all digits", "1_2_3", 123},
		{"_ behind 0", "0_1", 1},
		{"small letters", "16#ff", 255},
		{"letters of both cases", "16#fF", 255},
		{"_ behind a base", "16#F_f", 255},
		{"_ between all digits behind a base", "2#1_0_1_0", 10},
		{"the least base", "2#101", 5},
		{"a base of one digit", "9#88", 80},
		{"a base with 0 ahead", "02#11", 3},
		{"a base with 0 ahead, its greatest", "09#8", 8},
		{"the base ten", "10#19", 19},
		{"the first base with letters", "11#A", 10},
		{"the greatest base", "36#Zz", 1295},
		{"0 ahead behind a base", "16#" + strings.Repeat("0", 100) + "1", 1},
		{"the greatest value", "18446744073709551615", math.MaxUint64},
		{"the greatest value with _", "18_446_744_073_709_551_615", math.MaxUint64},
		{"the greatest value with 0 ahead", "0018446744073709551615", math.MaxUint64},
		{"the greatest value of base 16", "16#FFFF_FFFF_FFFF_FFFF", math.MaxUint64},
		{"the greatest value of base 2", "2#" + strings.Repeat("1", 64), math.MaxUint64},
		{"the greatest value of base 36", "36#3W5E11264SGSF", math.MaxUint64},
		{"half of them", "9223372036854775808", 1 << 63},
	} {
		if v, e := Integer(x.s); v != x.value || e != api.OK {
			t.Errorf("%s: Integer(%.30q): %d %d, not %d", x.name, x.s, v, e, x.value)
		}
	}
}

// 4.1: what is no integer's form, also where its value would be too great.
func TestIntegerForm(t *testing.T) {
	great := strings.Repeat("9", 30)
	for _, s := range []string{
		"", " ", "_", "__", "_1", "1_", "1__0", "1_0_", "1_ 0", "-1", "+1", " 1", "1 ", "1\n", "1\x00", "\x001",
		"a", "1a", "F", "0xFF", "1.", "1.0", "1e3", "$1", "é", "1é", "１", "٣", "\xff", "1\xff", "1\xffa", "1'000", "1,000",
		"#", "#1", "16#", "16#_", "16#_F", "16#F_", "16#F__F", "16#F#F", "16##F", "16#F#", "16 #F", "16# F", "16#-F", "16#+F", "16#0.1", "16#é", "16#\xff", "16#\u212a",
		"0#0", "1#0", "00#0", "01#0", "37#0", "99#0", "2#2", "8#8", "9#9", "10#A", "10#a", "11#B", "11#b", "16#G", "16#g", "35#Z", "35#z", "36#[", "36#`", "36#{", "36#@", "36#/", "36#:",
		"016#F", "002#1", "100#1", "1_6#F", "_16#F", "16_#F", "1_#0", "_2#0", "x#0", "1x#0", "+2#1",
		great + "_", "_" + great, great + "__1", great + "a", great + "#1", great + ".", great + "é", "16#" + great + "_", "16#" + great + "G", "16#" + great + "#",
		"18446744073709551618#1", "18446744073709551632#F", "36893488147419103234#1",
	} {
		if v, e := Integer(s); v != 0 || e != api.ErrForm {
			t.Errorf("Integer(%q): %d %d", s, v, e)
		}
	}
}

// 4.1: 2^64 and above.
func TestIntegerRange(t *testing.T) {
	for _, s := range []string{
		"18446744073709551616", "18446744073709551617", "18446744073709551620", "18446744073709551625", "18_446_744_073_709_551_616", "000018446744073709551616",
		"20000000000000000000", "99999999999999999999", "184467440737095516150", "36893488147419103232", "340282366920938463463374607431768211456",
		"16#10000000000000000", "16#1_0000_0000_0000_0000", "16#FFFFFFFFFFFFFFFFF", "2#1" + strings.Repeat("0", 64), "2#1" + strings.Repeat("0", 128), "36#3W5E11264SGSG", "36#" + strings.Repeat("Z", 100),
		"1" + strings.Repeat("0", 1<<16), "16#1" + strings.Repeat("_0", 1<<15),
	} {
		if v, e := Integer(s); v != 0 || e != api.ErrRange {
			t.Errorf("Integer(%.30q): %d %d", s, v, e)
		}
	}
}

// 4.1: each base from 0 to 99 with each byte behind it.
func TestIntegerBases(t *testing.T) {
	const digits = "0123456789abcdefghijklmnopqrstuvwxyz"
	for base := range 100 {
		for x := range 256 {
			c := string([]byte{byte(x)})
			want, e := strings.Index(digits, strings.ToLower(c)), api.OK
			if base < 2 || base > 36 || want < 0 || want >= base {
				want, e = 0, api.ErrForm
			}
			s := strconv.Itoa(base) + "#" + c
			if v, got := Integer(s); v != uint64(want) || got != e {
				t.Errorf("Integer(%q): %d %d, not %d %d", s, v, got, want, e)
			}
		}
	}
}

var (
	decimal = regexp.MustCompile(`^[0-9]+(?:_[0-9]+)*$`)
	based   = regexp.MustCompile(`^([0-9]{1,2})#([0-9A-Za-z]+(?:_[0-9A-Za-z]+)*)$`)
	floats  = regexp.MustCompile(`^[0-9]+(?:_[0-9]+)*\.[0-9]+(?:_[0-9]+)*(?:[eE][+-]?[0-9]+(?:_[0-9]+)*)?$`)
)

// reckoned is what an integer is by the chapter's words, with numbers of any length.
func reckoned(s string) (uint64, int) {
	base, text := 10, s
	if m := based.FindStringSubmatch(s); m != nil {
		base, _ = strconv.Atoi(m[1])
		text = m[2]
	} else if !decimal.MatchString(s) {
		return 0, api.ErrForm
	}
	if base < 2 || base > 36 {
		return 0, api.ErrForm
	}
	v, ok := new(big.Int).SetString(strings.ReplaceAll(text, "_", ""), base)
	switch {
	case !ok:
		return 0, api.ErrForm
	case !v.IsUint64():
		return 0, api.ErrRange
	}
	return v.Uint64(), api.OK
}

// 4.1: every text of up to five parts, alone and where it makes a number about as great as 2^64.
func TestIntegerAll(t *testing.T) {
	texts([]string{"0", "1", "2", "3", "9", "a", "F", "Z", "_", "#", "-"}, 5, func(s string) {
		for _, ahead := range []string{"", "36#3W5E1126", "18446744073709551"} {
			want, e := reckoned(ahead + s)
			if v, got := Integer(ahead + s); v != want || got != e {
				t.Fatalf("Integer(%q): %d %d, not %d %d", ahead+s, v, got, want, e)
			}
		}
	})
}

// 4.2: each escape of one letter, as the chapter tells it.
func TestEscapeLetters(t *testing.T) {
	for s, c := range map[string]int{`\b`: 8, `\d`: 127, `\e`: 27, `\f`: 12, `\n`: 10, `\r`: 13, `\s`: 32, `\t`: 9, `\v`: 11} {
		for _, behind := range []string{"", "x", "1", "\"", "\\", "é", "\xff"} {
			if v, n := Escape(s+behind, 0); v != c || n != 2 {
				t.Errorf("Escape(%q): %d %d, not %d", s+behind, v, n, c)
			}
		}
	}
}

// 4.2: ordinary escapes, their edges, and what is none.
func TestEscape(t *testing.T) {
	for _, x := range []struct {
		name, s string
		c, n    int
	}{
		{"one octal digit", `\0`, 0, 2},
		{"the greatest octal digit", `\7`, 7, 2},
		{"two octal digits", `\17`, 15, 3},
		{"three octal digits", `\101`, 65, 4},
		{"0 ahead", `\007`, 7, 4},
		{"no more than three", `\1234`, 83, 4},
		{"the greatest octal number", `\777`, 511, 4},
		{"above two hexadecimal digits", `\400`, 256, 4},
		{"an 8 behind one", `\18`, 1, 2},
		{"a 9 behind two", `\129`, 10, 3},
		{"no _", `\1_1`, 1, 2},
		{"a letter behind", `\17x`, 15, 3},
		{"a letter of two bytes behind", `\1é`, 1, 2},
		{"a byte that is none behind", "\\1\xff", 1, 2},
		{"8 is no octal digit", `\8`, '8', 2},
		{"9 is no octal digit", `\91`, '9', 2},

		{"two hexadecimal digits", `\x41`, 65, 4},
		{"no more than two", `\x41f`, 65, 4},
		{"small ones", `\xff`, 255, 4},
		{"great ones", `\xFF`, 255, 4},
		{"of both cases", `\xaF`, 175, 4},
		{"nothing", `\x00`, 0, 4},
		{"below 32", `\x1f`, 31, 4},
		{"no digit", `\x`, -1, 0},
		{"one digit", `\x4`, -1, 0},
		{"one digit and a letter", `\x4g`, -1, 0},
		{"one digit and a _", `\x4_1`, -1, 0},
		{"a letter first", `\xg4`, -1, 0},
		{"a sign first", `\x-4`, -1, 0},
		{"a great X", `\X41`, 'X', 2},
		{"a letter of two bytes", `\xé1`, -1, 0},

		{"one within {", `\x{4}`, 4, 5},
		{"two within {", `\x{41}`, 65, 6},
		{"three within {", `\x{e9}`, 233, 6},
		{"four within {", `\x{20Ac}`, 0x20AC, 8},
		{"five within {", `\x{1F600}`, 0x1F600, 9},
		{"six within {", `\x{10FFFF}`, 0x10FFFF, 10},
		{"six, 0 ahead", `\x{000041}`, 65, 10},
		{"nothing within {", `\x{0}`, 0, 5},
		{"something behind", `\x{41}41}`, 65, 6},
		{"ahead of the gap", `\x{D7FF}`, 0xD7FF, 8},
		{"the gap's first", `\x{D800}`, -1, 0},
		{"the gap's last", `\x{dfff}`, -1, 0},
		{"behind the gap", `\x{E000}`, 0xE000, 8},
		{"above all", `\x{110000}`, -1, 0},
		{"far above all", `\x{FFFFFF}`, -1, 0},
		{"no digit within {", `\x{}`, -1, 0},
		{"seven within {", `\x{1F6001F}`, -1, 0},
		{"seven, 0 ahead", `\x{0000041}`, -1, 0},
		{"no }", `\x{41`, -1, 0},
		{"six and no }", `\x{000041`, -1, 0},
		{"{ alone", `\x{`, -1, 0},
		{"no digits at all", `\x{g}`, -1, 0},
		{"a letter behind digits", `\x{41g}`, -1, 0},
		{"a blank within {", `\x{ 41}`, -1, 0},
		{"a blank ahead of }", `\x{41 }`, -1, 0},
		{"a _ within {", `\x{4_1}`, -1, 0},
		{"another sign for }", `\x{41)`, -1, 0},
		{"a letter of two bytes within {", `\x{é}`, -1, 0},

		{"the first with ^", `\^@`, 0, 3},
		{"a great letter with ^", `\^A`, 1, 3},
		{"a small letter with ^", `\^a`, 1, 3},
		{"the last great letter with ^", `\^Z`, 26, 3},
		{"the last small letter with ^", `\^z`, 26, 3},
		{"[ with ^", `\^[`, 27, 3},
		{"\\ with ^", `\^\n`, 28, 3},
		{"] with ^", `\^]`, 29, 3},
		{"^ with ^", `\^^`, 30, 3},
		{"the last with ^", `\^_`, 31, 3},
		{"below the first with ^", `\^?`, -1, 0},
		{"behind the last with ^", "\\^`", -1, 0},
		{"behind z with ^", `\^{`, -1, 0},
		{"a digit with ^", `\^1`, -1, 0},
		{"\" with ^", `\^"`, -1, 0},
		{"a blank with ^", `\^ `, -1, 0},
		{"a letter of two bytes with ^", `\^é`, -1, 0},
		{"a byte that is none with ^", "\\^\xc1", -1, 0},
		{"nothing with ^", `\^`, -1, 0},

		{"\\", `\\`, 92, 2},
		{"\"", `\"`, 34, 2},
		{"'", `\'`, 39, 2},
		{"a blank", `\ `, 32, 2},
		{"a letter that means nothing", `\a`, 'a', 2},
		{"the letter ahead of f, great", `\N`, 'N', 2},
		{"127", "\\\x7f", 127, 2},
		{"two bytes", `\é`, 233, 3},
		{"three bytes", `\€`, 0x20AC, 4},
		{"four bytes", `\𝄞`, 0x1D11E, 5},
		{"above 127, below 160", "\\\u0085", 0x85, 3},
		{"the last one", "\\\U0010FFFF", 0x10FFFF, 5},
		{"a newline", "\\\n", -1, 0},
		{"a tab", "\\\t", -1, 0},
		{"0", "\\\x00", -1, 0},
		{"31", "\\\x1f", -1, 0},
		{"nothing", `\`, -1, 0},
		{"a byte that is none", "\\\xff", -1, 0},
		{"cut off", "\\\xe2\x82", -1, 0},
		{"a half", "\\\xed\xa0\x80", -1, 0},

		{"no \\", "n", -1, 0},
		{"no \\ there", `n\n`, -1, 0},
		{"a / is no \\", "/n", -1, 0},
		{"nothing at all", "", -1, 0},
	} {
		if c, n := Escape(x.s, 0); c != x.c || n != x.n {
			t.Errorf("%s: Escape(%q): %d %d, not %d %d", x.name, x.s, c, n, x.c, x.n)
		}
	}
}

// 4.2: at any place; outside of the text there is none.
func TestEscapePlaces(t *testing.T) {
	s := `é\x41\\n`
	for at, want := range map[int][2]int{0: {-1, 0}, 1: {-1, 0}, 2: {65, 4}, 3: {-1, 0}, 4: {-1, 0}, 5: {-1, 0}, 6: {92, 2}, 7: {10, 2}, 8: {-1, 0}} {
		if c, n := Escape(s, at); c != want[0] || n != want[1] {
			t.Errorf("Escape(%q, %d): %d %d, not %v", s, at, c, n, want)
		}
	}
	for _, s := range []string{"", `\`, `\n`, `\n\n`, "a\\"} {
		for _, at := range []int{len(s), len(s) + 1, math.MaxInt32, math.MaxInt, -1, -2, math.MinInt32, math.MinInt} {
			if c, n := Escape(s, at); c != -1 || n != 0 {
				t.Errorf("Escape(%q, %d): %d %d", s, at, c, n)
			}
		}
	}
	if c, n := Escape(strings.Repeat(`\`, 1<<16)+"n", 1<<16-1); c != 10 || n != 2 {
		t.Error("far in a text", c, n)
	}
}

var (
	octal  = regexp.MustCompile(`^[0-7]{1,3}`)
	two    = regexp.MustCompile(`^x([0-9a-fA-F]{2})`)
	braced = regexp.MustCompile(`^x\{([0-9a-fA-F]{1,6})\}`)
	carets = regexp.MustCompile("^\\^[@-_a-z]")
)

// told is what the escape means that begins s, by the chapter's words.
func told(s string) (int, int) {
	rest, ok := strings.CutPrefix(s, `\`)
	if !ok || rest == "" {
		return -1, 0
	}
	number := func(digits string, base, n int) (int, int) {
		c, _ := strconv.ParseInt(digits, base, 32)
		if !utf8.ValidRune(rune(c)) {
			return -1, 0
		}
		return int(c), n
	}
	if m := octal.FindString(rest); m != "" {
		return number(m, 8, 1+len(m))
	}
	if m := two.FindStringSubmatch(rest); m != nil {
		return number(m[1], 16, 4)
	}
	if m := braced.FindStringSubmatch(rest); m != nil {
		return number(m[1], 16, 1+len(m[0]))
	}
	if carets.MatchString(rest) {
		return int(rest[1] % 32), 3
	}
	if i := strings.IndexByte("bdefnrstv", rest[0]); i >= 0 {
		return []int{8, 127, 27, 12, 10, 13, 32, 9, 11}[i], 2
	}
	r, n := utf8.DecodeRuneInString(rest)
	if r < 32 || r == utf8.RuneError && n == 1 || r == 'x' || r == '^' {
		return -1, 0
	}
	return int(r), 1 + n
}

// sameEscape holds what Escape tells of s against told, at its beginning and within a text.
func sameEscape(t *testing.T, s string) {
	c, n := told(s)
	if d, m := Escape(s, 0); d != c || m != n {
		t.Fatalf("Escape(%q): %d %d, not %d %d", s, d, m, c, n)
	}
	if d, m := Escape("é\\"+s, 3); d != c || m != n {
		t.Fatalf("Escape(%q, 3): %d %d, not %d %d", "é\\"+s, d, m, c, n)
	}
}

// 4.2: each byte and each two behind \; each of up to six parts behind \x{; each number of code points' size.
func TestEscapeAll(t *testing.T) {
	for x := range 256 {
		sameEscape(t, string([]byte{byte(x)}))
		sameEscape(t, string([]byte{'\\', byte(x)}))
		for y := range 256 {
			sameEscape(t, string([]byte{'\\', byte(x), byte(y)}))
			sameEscape(t, string([]byte{'\\', 'x', byte(x), byte(y)}))
			sameEscape(t, string([]byte{'\\', '1', byte(x), byte(y)}))
			sameEscape(t, string([]byte{'\\', 'x', '{', byte(x), byte(y)}))
			sameEscape(t, string([]byte{'\\', 'x', '{', byte(x), byte(y), '}'}))
			sameEscape(t, string([]byte{'\\', '^', byte(x), byte(y)}))
		}
	}
	texts([]string{"0", "1", "7", "8", "d", "F", "g", "x", "{", "}", "^", "\\", "\n", "\xff"}, 4, func(s string) {
		sameEscape(t, `\`+s)
		sameEscape(t, `\x`+s)
		sameEscape(t, `\x{0`+s)
	})
	for c := 0; c < 0x120000; c += 7 {
		sameEscape(t, `\x{`+strconv.FormatInt(int64(c), 16)+`}`)
		if utf8.ValidRune(rune(c)) {
			sameEscape(t, `\`+string(rune(c)))
		}
	}
}

// 4.3 Char: an escape or a code point, and nothing behind it.
func TestChar(t *testing.T) {
	for _, x := range []struct {
		name, s string
		c       int
	}{
		{"the chapter's", `$\n`, 10},
		{"a letter", "$a", 'a'},
		{"a digit", "$1", '1'},
		{"the first one", "$!", 33},
		{"the last one of a byte", "$~", 126},
		{"$", "$$", '$'},
		{"\"", "$\"", '"'},
		{"'", "$'", '\''},
		{"%", "$%", '%'},
		{"ahead of \\", "$[", 91},
		{"behind \\", "$]", 93},
		{"two bytes", "$é", 233},
		{"behind 127", "$\u0080", 128},
		{"three bytes", "$€", 0x20AC},
		{"four bytes", "$𝄞", 0x1D11E},
		{"the last one", "$\U0010FFFF", 0x10FFFF},
		{"one that stands for none elsewhere", "$\uFFFD", 0xFFFD},
		{"a blank in an escape", `$\ `, 32},
		{"a blank by its letter", `$\s`, 32},
		{"127 in an escape", "$\\\x7f", 127},
		{"127 by its letter", `$\d`, 127},
		{"\\ in an escape", `$\\`, 92},
		{"octal digits", `$\101`, 65},
		{"nothing", `$\0`, 0},
		{"hexadecimal digits", `$\x41`, 65},
		{"hexadecimal digits within {", `$\x{1F600}`, 0x1F600},
		{"^", `$^`, '^'},
		{"an escape with ^", `$\^G`, 7},
		{"an escape of two bytes", `$\é`, 233},
	} {
		if c, e := Char(x.s); c != x.c || e != api.OK {
			t.Errorf("%s: Char(%q): %d %d, not %d", x.name, x.s, c, e, x.c)
		}
	}
}

// 4.3 Char: what is none.
func TestCharForm(t *testing.T) {
	for _, s := range []string{
		"", "$", "a", "ab", `\n`, "é", " $a", "'a'", "#a", "\xff",
		"$ ", "$\n", "$\t", "$\r", "$\x00", "$\x1f", "$\x7f", `$\`, "$\xff", "$\xe2\x82", "$\xed\xa0\x80", "$\xc0\xa1", "$\x80",
		"$ab", "$a ", "$a\n", "$éa", "$a\xff", "$$$", "$a$a", `$a\n`,
		`$\nn`, `$\n `, `$\\\`, `$\1234`, `$\x41f`, `$\x{41}}`, `$\^aa`, `$\éé`, `$\18`,
		`$\x`, `$\x4`, `$\x{}`, `$\x{41`, `$\x{D800}`, `$\x{110000}`, `$\^`, `$\^1`, "$\\\n", "$\\\x00", "$\\\xff",
	} {
		if c, e := Char(s); c != 0 || e != api.ErrForm {
			t.Errorf("Char(%q): %d %d", s, c, e)
		}
	}
}

// 4.3 Char: each code point behind $, and each two bytes.
func TestCharAll(t *testing.T) {
	for c := range 0x110000 {
		if !utf8.ValidRune(rune(c)) {
			continue
		}
		want, e := c, api.OK
		if c <= 32 || c == '\\' || c == 127 {
			want, e = 0, api.ErrForm
		}
		s := "$" + string(rune(c))
		if d, got := Char(s); d != want || got != e {
			t.Fatalf("Char(%q): %d %d, not %d %d", s, d, got, want, e)
		}
	}
	for x := range 256 {
		for y := range 256 {
			s := string([]byte{byte(x), byte(y)})
			want, e := y, api.OK
			if x != '$' || y <= 32 || y == '\\' || y >= 127 {
				want, e = 0, api.ErrForm
			}
			if c, got := Char(s); c != want || got != e {
				t.Fatalf("Char(%q): %d %d, not %d %d", s, c, got, want, e)
			}
			escape := `$\` + s
			c, n := told(escape[1:])
			e = api.OK
			if n != len(escape)-1 {
				c, e = 0, api.ErrForm
			}
			if d, got := Char(escape); d != c || got != e {
				t.Fatalf("Char(%q): %d %d, not %d %d", escape, d, got, c, e)
			}
		}
	}
}

// 4.3 Quoted: its code points, escapes meant.
func TestQuoted(t *testing.T) {
	for _, x := range []struct {
		name, s string
		points  []int
	}{
		{"nothing between \"", `""`, nil},
		{"nothing between '", `''`, nil},
		{"letters", `"ab"`, []int{'a', 'b'}},
		{"an atom", `'foo bar'`, []int{'f', 'o', 'o', ' ', 'b', 'a', 'r'}},
		{"a code point of each length", `"aé€𝄞"`, []int{'a', 233, 0x20AC, 0x1D11E}},
		{"a mark over a letter is one more", "\"e\u0301\"", []int{'e', 0x301}},
		{"one that stands for none elsewhere", "\"\uFFFD\"", []int{0xFFFD}},
		{"' between \"", `"'"`, []int{'\''}},
		{"\" between '", `'"'`, []int{'"'}},
		{"a blank", `" "`, []int{32}},
		{"127", "\"\x7f\"", []int{127}},
		{"behind 127", "\"\u0080\"", []int{128}},
		{"$ and %", `"$%"`, []int{'$', '%'}},
		{"\" in an escape", `"\""`, []int{'"'}},
		{"' in an escape", `'\''`, []int{'\''}},
		{"the other one in an escape", `"\'"`, []int{'\''}},
		{"\\ in an escape", `"\\"`, []int{'\\'}},
		{"\\ in an escape at the end", `'a\\'`, []int{'a', '\\'}},
		{"\\ and \" in escapes", `"\\\""`, []int{'\\', '"'}},
		{"escapes side by side", `"\n\t\x41\x{20AC}\101\^A\s\é"`, []int{10, 9, 65, 0x20AC, 65, 1, 32, 233}},
		{"escapes among letters", `"a\nb"`, []int{'a', 10, 'b'}},
		{"an octal escape and a digit", `"\1234"`, []int{83, '4'}},
		{"an octal escape and the end", `"\1"`, []int{1}},
		{"a hexadecimal escape and a digit", `"\x414"`, []int{65, '4'}},
		{"an escape of nothing", `"\0"`, []int{0}},
		{"what looks like an escape within one", `"\\n"`, []int{'\\', 'n'}},
		{"\\ with ^ at the end", `"\^\"`, []int{28}},
		{"\\ with ^, and \"", `"\^\\""`, []int{28, '"'}},
		{"a line of others", `'日本'`, []int{0x65E5, 0x672C}},
	} {
		l, e := Quoted(x.s)
		if !slices.Equal(l, x.points) || e != api.OK {
			t.Errorf("%s: Quoted(%q): %v %d, not %v", x.name, x.s, l, e, x.points)
		}
	}
	s := strings.Repeat(`aé\n`, 10000)
	l, e := Quoted("'" + s + "'")
	if len(l) != 30000 || e != api.OK || l[29998] != 233 || l[29999] != 10 {
		t.Error("a long one", len(l), e)
	}
}

// 4.3 Quoted: what is none.
func TestQuotedForm(t *testing.T) {
	for _, s := range []string{
		"", "a", "ab", `"`, "'", `"'`, `'"`, `"a`, `a"`, `'a`, `a'`, `"a'`, `'a"`, ` "a"`, `"a" `, "``", "((", "aa",
		`"""`, `'''`, `"a"b"`, `'a'b'`, `""""`, `"a""b"`, `'a''b'`,
		`"\"`, `'\'`, `"a\"`, `"\\\"`, `"\\"a"`, `"\`,
		"\"\n\"", "\"a\nb\"", "\"\t\"", "\"\r\"", "\"\x00\"", "'\x1f'", "'a\n'",
		`"\x"`, `"\x4"`, `"\x{}"`, `"\x{41"`, `"\x{D800}"`, `"\x{110000}"`, `"\x{1F6001F}"`, `"\^"`, `"\^1"`, `"a\x{}b"`, "\"\\\n\"", "\"\\\x00\"",
		"\"\xff\"", "\"a\x80\"", "'\xe2\x82'", "'\xc3'", "\"\xed\xa0\x80\"", "\"\\\xff\"", "\"\\\xc3\"", "\"\xff", "\xff\"", "\xff\xff", "\"a\"\xff",
	} {
		if l, e := Quoted(s); len(l) != 0 || e != api.ErrForm {
			t.Errorf("Quoted(%q): %v %d", s, l, e)
		}
	}
}

// parted is what a quoted text means by the chapter's words, from its beginning on, its last sign told apart from one in an escape.
func parted(s string) ([]int, int) {
	if !utf8.ValidString(s) || s == "" || s[0] != '"' && s[0] != '\'' {
		return nil, api.ErrForm
	}
	var l []int
	for rest := s[1:]; rest != ""; {
		r, n := utf8.DecodeRuneInString(rest)
		c := int(r)
		switch {
		case r == rune(s[0]) && len(rest) == 1:
			return l, api.OK
		case r == rune(s[0]) || r < 32:
			return nil, api.ErrForm
		case r == '\\':
			c, n = told(rest)
			if n == 0 {
				return nil, api.ErrForm
			}
		}
		l, rest = append(l, c), rest[n:]
	}
	return nil, api.ErrForm
}

// 4.3 Quoted: every text of up to five parts, alone, between two signs, and behind one.
func TestQuotedAll(t *testing.T) {
	texts([]string{"\"", "'", "\\", "n", "x", "{", "4", "}", "^", "é", "\n", "\x82"}, 5, func(s string) {
		for _, x := range []string{s, `"` + s + `"`, "'" + s + "'", `"` + s} {
			want, e := parted(x)
			if l, got := Quoted(x); !slices.Equal(l, want) || got != e {
				t.Fatalf("Quoted(%q): %v %d, not %v %d", x, l, got, want, e)
			}
		}
	})
}

// 4.3 Quoted: what is answered is the caller's own.
func TestQuotedOwn(t *testing.T) {
	l, _ := Quoted(`"abc"`)
	for k := range l {
		l[k] = 99
	}
	_ = append(l[:1], 98)
	if m, e := Quoted(`"abc"`); !slices.Equal(m, []int{'a', 'b', 'c'}) || e != api.OK {
		t.Error(m, e)
	}
}

// 4.4: what is a float, and what is none.
func TestFloat(t *testing.T) {
	great := strings.Repeat("9", 400)
	for _, s := range []string{
		"0.0", "1.5", "1.50", "007.00", "1_0.0_1", "1_2_3.4_5_6", "123456789.987654321",
		"1.5e10", "1.5E10", "1.5e+3", "1.5E+3", "1.5e-3", "1.5E-3", "1.5e0", "1.5e-0", "1.5e1_0", "1.5e-1_0", "1_0.0_1E+0_1",
		great + "." + great, "1.0e" + great, "1.0e-" + great,
	} {
		if !Float(s) {
			t.Errorf("Float(%.30q): no", s)
		}
	}
	for _, s := range []string{
		"", ".", "1", "12", "1.", ".5", "1..5", "1.5.", "1.5.5", "..", " 1.5", "1.5 ", "1 .5", "1.5\n", "1,5", "-1.5", "+1.5", "1.-5", "1.+5",
		"1e5", "1.e5", ".5e5", "1.5e", "1.5E", "1.5e+", "1.5e-", "1.5+3", "1.5-3", "1.5e+-3", "1.5e--3", "1.5e 3", "1.5e5e5", "1.5e5E5", "1.5ee5", "1.5eE5", "1.5e5.5", "1.5e3+", "e1.5", "1e1.5", "1.5f", "1.5x3", "1.5e3a", "1.5ea",
		"_1.5", "1_.5", "1._5", "1.5_", "1__0.5", "1.5__0", "1.5_e3", "1.5e_3", "1.5e3_", "1.5e3__0", "1.5e+_3", "1.5e_+3",
		"16#1.5", "16#F.F", "1.16#5", "1.5#", "2#1.0", "10#1.5", "1.5e16#1", "1.5e2#1", "A.5", "1.A", "F.F",
		"é.5", "1.é", "１.5", "1.5\xff", "\xff1.5", "1\xff.5", "1.5\x00", great + "." + great + "_", great + "_." + great, great,
	} {
		if Float(s) {
			t.Errorf("Float(%.30q): yes", s)
		}
	}
}

// 4.4: every text of up to seven parts; no float is an integer.
func TestFloatAll(t *testing.T) {
	texts([]string{"0", "7", "_", ".", "e", "E", "+", "-"}, 7, func(s string) {
		if Float(s) != floats.MatchString(s) {
			t.Fatalf("Float(%q): %v", s, Float(s))
		}
		if _, e := Integer(s); Float(s) && e != api.ErrForm {
			t.Fatalf("%q: both", s)
		}
	})
	texts([]string{"0", "F", "_", ".", "e", "#", "é", "\xff", " "}, 4, func(s string) {
		for _, x := range []string{s, "1." + s, s + ".1", "1.5e" + s, "16#" + s} {
			if Float(x) != floats.MatchString(x) {
				t.Fatalf("Float(%q): %v", x, Float(x))
			}
		}
	})
}

// 4.5: literals that are written in unlike ways mean the same; how they are written is left as it is.
func TestMeaning(t *testing.T) {
	for _, s := range []string{"255", "0255", "2_55", "16#FF", "16#ff", "16#f_F", "2#1111_1111", "36#73"} {
		if v, e := Integer(s); v != 255 || e != api.OK {
			t.Errorf("Integer(%q): %d %d", s, v, e)
		}
	}
	for _, s := range []string{"$A", `$\A`, `$\101`, `$\x41`, `$\x{41}`, `$\x{000041}`} {
		if c, e := Char(s); c != 65 || e != api.OK {
			t.Errorf("Char(%q): %d %d", s, c, e)
		}
		for _, sign := range []string{`"`, "'"} {
			q := sign + s[1:] + sign
			if l, e := Quoted(q); !slices.Equal(l, []int{65}) || e != api.OK {
				t.Errorf("Quoted(%q): %v %d", q, l, e)
			}
		}
	}
	plain, _ := Quoted("'ok'")
	if l, e := Quoted(`'\157k'`); !slices.Equal(l, plain) || e != api.OK {
		t.Error(l, e)
	}
}
