package scan

import (
	"math"
	"math/rand"
	"regexp"
	"slices"
	"strconv"
	"strings"
	"testing"
	"unicode/utf8"
	"unsafe"

	"galley/api"
)

// The chapter's words read anew, as regular expressions.
var (
	comments = regexp.MustCompile(`^%[^\n]*`)
	dots     = regexp.MustCompile(`^\.(?:[ \t\n\r%]|$)`)
	names    = regexp.MustCompile(`^[a-zA-Z_][a-zA-Z0-9_@]*`)
	atoms    = regexp.MustCompile(`^'(?:[^'\\\x00-\x1f\x7f]|\\[^\x00-\x1f\x7f])*'`)
	strs     = regexp.MustCompile(`^"(?:[^"\\\x00-\x1f\x7f]|\\[^\x00-\x1f\x7f])*"`)
	chars    = regexp.MustCompile(`^\$(?:\\(?:[0-7]{1,3}|x[0-9a-fA-F]{2}|x\{([0-9a-fA-F]{1,6})\}|\^[@-_a-z]|[^\x00-\x1f0-7x^])|[^\x00-\x20\\\x7f])`)
	floats   = regexp.MustCompile(`^[0-9]+(_[0-9]+)*\.[0-9]+(_[0-9]+)*([eE][+-]?[0-9]+(_[0-9]+)*)?$`)
	plains   = regexp.MustCompile(`^[0-9]+(_[0-9]+)*$`)
	based    = regexp.MustCompile(`^([0-9]{1,2})#([0-9a-zA-Z]+(?:_[0-9a-zA-Z]+)*)$`)
	macros   = regexp.MustCompile(`^\?\??[a-zA-Z_][a-zA-Z0-9_@]*`)
)

const (
	words = "after and andalso band begin bnot bor bsl bsr bxor case catch div end fun if not of or orelse receive rem when xor"
	signs = "=:= =/= << >> -> <- <= => := :: == /= =< >= || ++ -- ( ) { } [ ] , ; : = | ! # + - * / < > ."
)

// read is the kind of the token that s begins with, and its bytes; 0 and "" if there is none.
func read(s string) (int, string) {
	if t := comments.FindString(s); t != "" {
		return api.TComment, strings.TrimRight(t, " \t\r")
	}
	if dots.MatchString(s) {
		return api.TDot, "."
	}
	if t := names.FindString(s); t != "" {
		switch {
		case slices.Contains(strings.Fields(words), t):
			return api.TWord, t
		case 'a' <= t[0] && t[0] <= 'z':
			return api.TAtom, t
		}
		return api.TVar, t
	}
	if t := atoms.FindString(s); t != "" && utf8.ValidString(t) {
		return api.TAtom, t
	}
	if t := strs.FindString(s); t != "" && utf8.ValidString(t) {
		return api.TString, t
	}
	if t := readChar(s); t != "" {
		return api.TChar, t
	}
	if s != "" && '0' <= s[0] && s[0] <= '9' {
		return readNumber(s)
	}
	if t := macros.FindString(s); t != "" {
		return api.TMacro, t
	}
	t := ""
	for _, x := range strings.Fields(signs) {
		if strings.HasPrefix(s, x) && len(x) > len(t) {
			t = x
		}
	}
	if t == "" {
		return 0, ""
	}
	return api.TSign, t
}

// readChar is read of a char.
func readChar(s string) string {
	m := chars.FindStringSubmatch(s)
	if m == nil || !utf8.ValidString(m[0]) {
		return ""
	}
	if m[1] != "" {
		v, _ := strconv.ParseUint(m[1], 16, 32)
		if v > utf8.MaxRune || !utf8.ValidRune(rune(v)) {
			return ""
		}
	}
	return m[0]
}

// readNumber is read of a number: of all that s begins with, the longest float, else the longest integer; and then what stands behind it.
func readNumber(s string) (int, string) {
	kind, t, base := 0, "", false
	for n := 1; n <= len(s); n++ {
		if floats.MatchString(s[:n]) {
			kind, t = api.TFloat, s[:n]
		}
	}
	for n := 1; n <= len(s) && kind != api.TFloat; n++ {
		if plains.MatchString(s[:n]) || readBased(s[:n]) {
			kind, t, base = api.TInt, s[:n], readBased(s[:n])
		}
		if n-len(t) > 2 {
			break
		}
	}
	behind := s[len(t):]
	if kind == 0 || behind != "" && strings.ContainsAny(behind[:1], "abcdefghijklmnopqrstuvwxyzABCDEFGHIJKLMNOPQRSTUVWXYZ0123456789_@") {
		return 0, ""
	}
	if kind == api.TInt && !base && strings.HasPrefix(behind, "#") {
		return 0, ""
	}
	return kind, t
}

// readBased tells whether s is an integer with a base.
func readBased(s string) bool {
	m := based.FindStringSubmatch(s)
	if m == nil {
		return false
	}
	base, _ := strconv.Atoi(m[1])
	if base < 2 || base > 36 {
		return false
	}
	for _, d := range strings.ReplaceAll(m[2], "_", "") {
		if v, _ := strconv.ParseInt(string(d), 36, 64); int(v) >= base {
			return false
		}
	}
	return true
}

// readAll is all tokens of s, and whether there are such.
func readAll(s string) ([]api.Token, bool) {
	var list []api.Token
	for at := 0; at < len(s); {
		if strings.IndexByte(" \t\n\r", s[at]) >= 0 {
			at++
			continue
		}
		kind, t := read(s[at:])
		if kind == 0 {
			return nil, false
		}
		list = append(list, api.Token{Kind: kind, Text: t, At: at})
		at += len(t)
	}
	return list, true
}

// held holds One, at each place of s and around it, and Scan against the chapter's words.
func held(t *testing.T, s string) {
	for at := range len(s) {
		heldAt(t, s, at)
	}
	for _, at := range []int{-1, len(s), len(s) + 1} {
		if x, e := One(s, at); x != (api.Token{}) || e != api.ErrScan {
			t.Fatalf("One(%q, %d): %v %d", s, at, x, e)
		}
	}
	want, ok := readAll(s)
	e := api.OK
	switch {
	case !utf8.ValidString(s):
		want, e = nil, api.ErrUtf
	case !ok:
		e = api.ErrScan
	}
	if list, got := Scan(s); got != e || !slices.Equal(list, want) {
		t.Fatalf("Scan(%q): %v %d, not %v %d", s, list, got, want, e)
	}
}

// heldAt holds One at one place of s against the chapter's words.
func heldAt(t *testing.T, s string, at int) {
	kind, text := read(s[at:])
	want, e := api.Token{Kind: kind, Text: text, At: at}, api.OK
	if kind == 0 {
		want, e = api.Token{}, api.ErrScan
	}
	if x, got := One(s, at); x != want || got != e {
		t.Fatalf("One(%q, %d): %v %d, not %v %d", s, at, x, got, want, e)
	}
}

// texts calls hold with the head and each text of up to most of the parts behind it.
func texts(head string, parts []string, most int, hold func(s string)) {
	hold(head)
	if most == 0 {
		return
	}
	for _, p := range parts {
		texts(head+p, parts, most-1, hold)
	}
}

// 6.1
func TestBlank(t *testing.T) {
	for _, x := range []struct {
		s        string
		at, want int
	}{
		{"a  b", 1, 3}, {"a  b", 2, 3}, {"a  b", 3, 3}, {"a  b", 0, 0}, {" \t\r\na", 0, 4}, {" \t\r\n", 0, 4}, {" \t\r\n", 2, 4}, {"a \n \n", 1, 5},
		{"", 0, 0}, {"", 1, 0}, {"", -1, 0}, {" ", 0, 1}, {" ", 1, 1}, {" ", 2, 1}, {"a", -5, 0}, {"a", 9, 1}, {" a", -1, 1}, {"  a", math.MinInt, 2}, {"  a", math.MaxInt, 3},
		{" %a\n b", 0, 1}, {"\v", 0, 0}, {"\f", 0, 0}, {"\x00", 0, 0}, {" \b ", 0, 1}, {"\u00a0", 0, 0}, {"\u2003", 0, 0}, {"\u0085", 0, 0}, {" \xff", 0, 1}, {"\ufeff ", 0, 0},
	} {
		if got := Blank(x.s, x.at); got != x.want {
			t.Errorf("Blank(%q, %d): %d, not %d", x.s, x.at, got, x.want)
		}
	}
	for c := range 256 {
		s := string([]byte{byte(c)})
		want := 0
		if c == 32 || c == 9 || c == 10 || c == 13 {
			want = 1
		}
		if got := Blank(s, 0); got != want {
			t.Errorf("Blank(%q, 0): %d", s, got)
		}
	}
}

// one is a text, and the token that it begins with; 0 and "" of what has none.
type one struct {
	s    string
	kind int
	text string
}

// heldOnes holds One against the list, at the beginning and further on.
func heldOnes(t *testing.T, list []one) {
	t.Helper()
	for _, x := range list {
		for _, head := range []string{"", " ", "a", "é\n", "'", "%"} {
			want, e := api.Token{Kind: x.kind, Text: x.text, At: len(head)}, api.OK
			if x.kind == 0 {
				want, e = api.Token{}, api.ErrScan
			}
			if got, code := One(head+x.s, len(head)); got != want || code != e {
				t.Errorf("One(%q, %d): %v %d, not %v %d", head+x.s, len(head), got, code, want, e)
			}
		}
	}
}

// 6.2 TComment
func TestComment(t *testing.T) {
	heldOnes(t, []one{
		{"%", api.TComment, "%"}, {"%% a", api.TComment, "%% a"}, {"%a\nb", api.TComment, "%a"}, {"%a \t\r\nb", api.TComment, "%a"}, {"%a \t\r", api.TComment, "%a"}, {"% \t\r", api.TComment, "%"},
		{"%\n", api.TComment, "%"}, {"%a\r b", api.TComment, "%a\r b"}, {"%a\tb  c  ", api.TComment, "%a\tb  c"}, {"%a.\nb", api.TComment, "%a."}, {"%'\"$\\?é", api.TComment, "%'\"$\\?é"},
		{"%a\v", api.TComment, "%a\v"}, {"%a\f \n", api.TComment, "%a\f"}, {"%a\x00", api.TComment, "%a\x00"}, {"%a\u00a0", api.TComment, "%a\u00a0"}, {"%a\u2028b", api.TComment, "%a\u2028b"}, {"%\xff", api.TComment, "%\xff"}, {"%\xff \n", api.TComment, "%\xff"},
	})
}

// 6.2 TDot, and the sign that a point is else.
func TestDot(t *testing.T) {
	heldOnes(t, []one{
		{".", api.TDot, "."}, {". ", api.TDot, "."}, {".\n", api.TDot, "."}, {".\t", api.TDot, "."}, {".\r\n", api.TDot, "."}, {".%", api.TDot, "."}, {".%a", api.TDot, "."}, {". a", api.TDot, "."},
		{".a", api.TSign, "."}, {"..", api.TSign, "."}, {".1", api.TSign, "."}, {".,", api.TSign, "."}, {".$ ", api.TSign, "."}, {".'a'", api.TSign, "."}, {".\v", api.TSign, "."}, {".\f", api.TSign, "."}, {".\x00", api.TSign, "."}, {".\u00a0", api.TSign, "."}, {".é", api.TSign, "."}, {".\xff", api.TSign, "."},
	})
}

// 6.2 TVar, TAtom, TWord
func TestName(t *testing.T) {
	heldOnes(t, []one{
		{"a", api.TAtom, "a"}, {"foo@bar_1 ", api.TAtom, "foo@bar_1"}, {"aB(", api.TAtom, "aB"}, {"z.", api.TAtom, "z"}, {"a'b'", api.TAtom, "a"}, {"aé", api.TAtom, "a"}, {"a\xff", api.TAtom, "a"}, {"a\x00", api.TAtom, "a"}, {"a#b", api.TAtom, "a"}, {"a?b", api.TAtom, "a"}, {"a%", api.TAtom, "a"},
		{"X", api.TVar, "X"}, {"Z9@", api.TVar, "Z9@"}, {"_", api.TVar, "_"}, {"_a", api.TVar, "_a"}, {"_1", api.TVar, "_1"}, {"__", api.TVar, "__"}, {"A-B", api.TVar, "A"}, {"End", api.TVar, "End"}, {"_end", api.TVar, "_end"},
		{"ends", api.TAtom, "ends"}, {"end_", api.TAtom, "end_"}, {"end@", api.TAtom, "end@"}, {"end1", api.TAtom, "end1"}, {"eNd", api.TAtom, "eNd"}, {"en", api.TAtom, "en"}, {"an d", api.TAtom, "an"}, {"maybe", api.TAtom, "maybe"}, {"else", api.TAtom, "else"}, {"try", api.TAtom, "try"}, {"let", api.TAtom, "let"}, {"spec", api.TAtom, "spec"},
		{"end.", api.TWord, "end"}, {"end'", api.TWord, "end"}, {"andalso(", api.TWord, "andalso"}, {"orelse", api.TWord, "orelse"}, {"fun(", api.TWord, "fun"}, {"fun fun", api.TWord, "fun"},
		{"@", 0, ""}, {"@a", 0, ""}, {"é", 0, ""}, {"éa", 0, ""}, {"Éa", 0, ""}, {"ß", 0, ""}, {"\xe9", 0, ""}, {"\xff", 0, ""},
	})
	for _, w := range strings.Fields(words) {
		heldOnes(t, []one{{w, api.TWord, w}, {w + "x", api.TAtom, w + "x"}, {"y" + w, api.TAtom, "y" + w}, {"'" + w + "'", api.TAtom, "'" + w + "'"}, {"?" + w, api.TMacro, "?" + w}, {w + "(", api.TWord, w}})
	}
}

// 6.2 TAtom between ', TString
func TestQuoted(t *testing.T) {
	var list []one
	for _, x := range []struct {
		inner string
		ok    bool
	}{
		{"", true}, {"a", true}, {"x y", true}, {"é€𝄞", true}, {"%", true}, {"$", true}, {"?", true}, {"end", true}, {"\u0080\u009f\u00a0\u2028\ufffd\ufeff", true}, {"\U0010ffff", true}, {"~", true},
		{`\n`, true}, {`\\`, true}, {`\\\\`, true}, {`\'`, true}, {`\"`, true}, {`\é`, true}, {`\ `, true}, {`\x`, true}, {`\xZZ`, true}, {`\x{110000}`, true}, {`\^`, true}, {`\^é`, true}, {`\999`, true}, {`a\'b\"c\\`, true}, {"\\\U0010ffff", true},
		{"\n", false}, {"a\nb", false}, {"\t", false}, {"\r", false}, {"\x00", false}, {"\x1f", false}, {"\x7f", false}, {"a\x7fb", false},
		{"\\\n", false}, {"\\\t", false}, {"\\\x00", false}, {"\\\x1f", false}, {"\\\x7f", false}, {"\\\\\\\n", false},
		{"\xff", false}, {"\xc3", false}, {"\\\xff", false}, {"a\xe2\x82", false}, {"\xed\xa0\x80", false}, {"\xc0\xa7", false}, {"\\\xc3", false},
	} {
		for kind, sign := range map[int]string{api.TAtom: "'", api.TString: `"`} {
			text := sign + x.inner + sign
			if !x.ok {
				list = append(list, one{text, 0, ""}, one{text + text, 0, ""})
				continue
			}
			list = append(list, one{text, kind, text}, one{text + text, kind, text}, one{text + "\xff", kind, text}, one{text + "a\n", kind, text}, one{sign + x.inner, 0, ""}, one{sign + x.inner + "\\" + sign, 0, ""}, one{sign + x.inner + "\n" + sign, 0, ""})
		}
	}
	list = append(list, one{`'"'`, api.TAtom, `'"'`}, one{`"'"`, api.TString, `"'"`}, one{`'a"b"c'`, api.TAtom, `'a"b"c'`}, one{`'a"`, 0, ""}, one{`"a'`, 0, ""}, one{`'`, 0, ""}, one{`"`, 0, ""}, one{`'\`, 0, ""}, one{`"\`, 0, ""}, one{`'\'`, 0, ""}, one{`'\\`, 0, ""}, one{`"\^\"`, 0, ""}, one{`'a'b'`, api.TAtom, `'a'`}, one{`"""`, api.TString, `""`})
	heldOnes(t, list)
}

// 6.2 TChar
func TestChar(t *testing.T) {
	var list []one
	for _, s := range []string{
		"$a", "$A", "$0", "$_", "$@", "$%", "$.", "$'", `$"`, "$$", "$?", "$!", "$~", "$é", "$€", "$𝄞", "$\u0080", "$\u00a0", "$\U0010ffff", "$\ufffd",
		`$\n`, `$\s`, `$\\`, `$\'`, `$\"`, `$\ `, `$\é`, `$\%`, `$\.`, `$\q`, "$\\\x7f", `$\0`, `$\10`, `$\101`, `$\777`, `$\8`, `$\x41`, `$\xfF`, `$\x{4}`, `$\x{20AC}`, `$\x{10FFFF}`, `$\x{000041}`, `$\^A`, `$\^@`, `$\^_`, `$\^z`, `$\^\`, `$\^a`,
	} {
		list = append(list, one{s, api.TChar, s}, one{s + "\n", api.TChar, s}, one{s + " a", api.TChar, s}, one{s + ".", api.TChar, s}, one{s + "g", api.TChar, s}, one{s + "\xff", api.TChar, s}, one{s + "'", api.TChar, s}, one{s + `\`, api.TChar, s})
	}
	for _, s := range []string{
		"$", "$ ", "$\n", "$\t", "$\r", "$\x00", "$\x1f", "$\x7f", `$\`, "$\\\n", "$\\\t", "$\\\x00", "$\\\x1f", "$\xff", "$\xc3", "$\\\xff", "$\xed\xa0\x80",
		`$\x`, `$\x4`, `$\xg1`, `$\x4g`, `$\x{`, `$\x{}`, `$\x{g}`, `$\x{41`, `$\x{0000041}`, `$\x{110000}`, `$\x{D800}`, `$\x{dfff}`, `$\x{ffffff}`, `$\^`, `$\^1`, `$\^é`, "$\\^\n", `$\^{`, `$\^?`,
	} {
		list = append(list, one{s, 0, ""})
	}
	list = append(list, one{`$\1234`, api.TChar, `$\123`}, one{`$\18`, api.TChar, `$\1`}, one{`$\x414`, api.TChar, `$\x41`}, one{"$ab", api.TChar, "$a"}, one{"$$$", api.TChar, "$$"}, one{"$..", api.TChar, "$."}, one{"$%%", api.TChar, "$%"}, one{`$\^aa`, api.TChar, `$\^a`})
	heldOnes(t, list)
}

// 6.2 TFloat, TInt: numbers, and what may stand behind them.
func TestNumber(t *testing.T) {
	great := strings.Repeat("9", 300)
	var list []one
	for kind, numbers := range map[int][]string{
		api.TInt:   {"0", "7", "00", "1234567890", "1_000", "1_2_3", "16#FF", "16#fF", "16#F_F", "2#1_0", "02#1", "9#8", "36#Zz", "10#9", great, "16#" + great, "16#1e5", "18446744073709551616"},
		api.TFloat: {"1.5", "0.0", "00.10", "1_0.5_0", "1.5e3", "1.5E3", "1.5e+3", "1.5E-3", "1.5e1_0", "1.5e-1_0", "1.0e007", "1.0e999", great + "." + great, great + ".0e" + great},
	} {
		for _, s := range numbers {
			list = append(list, one{s, kind, s})
			for _, behind := range []string{" ", "\n", ".", ". ", "..", ".%", ".a", "._1", ".e5", ".@", ",", ")", "+", "-1", "?M", "'a'", "\"a\"", "$a", "é", "\xff", "\x00", "%"} {
				list = append(list, one{s + behind, kind, s})
			}
			for _, behind := range []string{"_", "__1", "_ ", "@", "@1", "_@", "_é"} {
				list = append(list, one{s + behind, 0, ""})
			}
			for _, behind := range []string{"#", "#{", "#a", "# ", "#@", "##"} {
				if kind == api.TFloat || strings.Contains(s, "#") {
					list = append(list, one{s + behind, kind, s})
				} else {
					list = append(list, one{s + behind, 0, ""})
				}
			}
		}
	}
	list = append(list,
		one{"1..2", api.TInt, "1"}, one{"1.", api.TInt, "1"}, one{"1.e+5", api.TInt, "1"}, one{"1._5", api.TInt, "1"}, one{"1.é", api.TInt, "1"},
		one{"1.2.3", api.TFloat, "1.2"}, one{"1.2e3.4", api.TFloat, "1.2e3"}, one{"1.2+3", api.TFloat, "1.2"}, one{"1.2e+3+4", api.TFloat, "1.2e+3"}, one{"1.2e3-4", api.TFloat, "1.2e3"}, one{"1.5#r", api.TFloat, "1.5"},
		one{"16#F.5", api.TInt, "16#F"}, one{"16#F#F", api.TInt, "16#F"}, one{"1+2", api.TInt, "1"}, one{"16#E+5", api.TInt, "16#E"}, one{"16#1.5e+3", api.TInt, "16#1"},
		one{"-1", api.TSign, "-"}, one{"+1.5", api.TSign, "+"}, one{".5", api.TSign, "."}, one{"_1", api.TVar, "_1"})
	heldOnes(t, list)
}

// 6.2 TFloat, TInt: what stands behind a number that may not, and what is no number.
func TestNumberWrong(t *testing.T) {
	great := strings.Repeat("9", 300)
	var list []one
	for _, s := range []string{
		"1a", "1Z", "1_", "1__0", "1@", "1e5", "1E5", "1e", "0xFF", "1_a", "1_.5", "1a.5", "1_e.5", "1__0.5", "12b", "1end",
		"1.5e", "1.5e+", "1.5e-", "1.5e+a", "1.5e+_1", "1.5e_1", "1.5e1_", "1.5e1__1", "1.5e1e1", "1.5_", "1.5__0", "1.5_e1", "1.5a", "1.5a+1", "1.5@", "1.5ee+1", "1.5e+1a", "1.5e+1_", "1.5e+1@", "1.5e5e+3", "1.5end", "1.5e ", "1.5e.",
		"1#", "1#2", "1# ", "1#{", "1#r", "7#", "7#_", "7#7", "0#0", "1#0", "37#1", "99#1", "100#1", "016#F", "1_6#F", "16#", "16# F", "16#_F", "16#F_", "16#F__F", "16#FG", "16#G", "16#F@", "2#12", "2#2", "8#18", "10#1A", "16##F", "16#.5", "16#?M", "16#é", "3#1_3", great + "#1", great + "a",
	} {
		list = append(list, one{s, 0, ""})
	}
	heldOnes(t, list)
}

// 6.2 TMacro
func TestMacro(t *testing.T) {
	heldOnes(t, []one{
		{"?M", api.TMacro, "?M"}, {"??M", api.TMacro, "??M"}, {"?m", api.TMacro, "?m"}, {"??m", api.TMacro, "??m"}, {"?_", api.TMacro, "?_"}, {"??_", api.TMacro, "??_"}, {"?A1@_z.", api.TMacro, "?A1@_z"}, {"?Mé", api.TMacro, "?M"}, {"?M?N", api.TMacro, "?M"}, {"?M(", api.TMacro, "?M"}, {"?M'a'", api.TMacro, "?M"}, {"?M\xff", api.TMacro, "?M"}, {"?end", api.TMacro, "?end"}, {"??end ", api.TMacro, "??end"},
		{"?", 0, ""}, {"??", 0, ""}, {"???", 0, ""}, {"???M", 0, ""}, {"?1", 0, ""}, {"??1", 0, ""}, {"?@", 0, ""}, {"??@a", 0, ""}, {"? M", 0, ""}, {"?? M", 0, ""}, {"? ?M", 0, ""}, {"?'M'", 0, ""}, {"?é", 0, ""}, {"??\xff", 0, ""}, {"?(", 0, ""}, {"?%", 0, ""}, {"?\n", 0, ""}, {"?\"a\"", 0, ""},
	})
}

// 6.2 TSign, and what begins no token.
func TestSign(t *testing.T) {
	var list []one
	for _, s := range strings.Fields(signs) {
		if s == "." {
			continue
		}
		for _, behind := range []string{"", " ", "\n", "a", "1", "_", "'a'", "$a", "?M", "é", "\xff", "\x00"} {
			list = append(list, one{s + behind, api.TSign, s})
		}
	}
	for _, s := range []string{"<<<", ">>>", "->>", "---", "+++", "|||", ":::", "=<<", "<=<", "-->"} {
		list = append(list, one{s, api.TSign, s[:2]}, one{s + " ", api.TSign, s[:2]})
	}
	list = append(list, one{"=:=:=", api.TSign, "=:="}, one{"=/==", api.TSign, "=/="}, one{"((", api.TSign, "("}, one{"{}", api.TSign, "{"}, one{"#{", api.TSign, "#"})
	for _, s := range []string{" ", "\n", "\t", "\r", "\v", "\f", "\x00", "\x7f", "&", "^", "~", "`", "\\", "@", "é", "«", "\u00a0", "\u2003", "\ufeff", "\xff", "\x80"} {
		list = append(list, one{s, 0, ""}, one{s + "a", 0, ""}, one{s + "(", 0, ""})
	}
	heldOnes(t, list)
}

// 6.2: places outside of the text.
func TestOneOutside(t *testing.T) {
	for _, s := range []string{"", "a", "ab cd", "%", ".", "é", "\xff"} {
		for _, at := range []int{-1, -2, len(s), len(s) + 1, math.MinInt, math.MaxInt, math.MinInt + len(s)} {
			if x, e := One(s, at); x != (api.Token{}) || e != api.ErrScan {
				t.Errorf("One(%q, %d): %v %d", s, at, x, e)
			}
		}
	}
	// A token begins wherever it is asked for, also within another one.
	for at, want := range map[int]string{0: "ab1", 1: "b1", 2: "1", 4: "'c d'", 5: "c", 7: "d"} {
		if x, e := One("ab1 'c d'", at); e != api.OK || x.Text != want || x.At != at {
			t.Errorf("at %d: %v %d", at, x, e)
		}
	}
}

// 6.2, 6.3: all texts of up to two bytes, at each place.
func TestAllBytes(t *testing.T) {
	for x := range 256 {
		held(t, string([]byte{byte(x)}))
		for y := range 256 {
			held(t, string([]byte{byte(x), byte(y)}))
		}
	}
}

// 6.2, 6.3: all short texts of the parts that count for one kind, at each place.
func TestAllParts(t *testing.T) {
	for _, x := range []struct {
		head  string
		parts string
		most  int
	}{
		{"1", "2 _ . e + # a", 5},
		{"1.1", "1 _ . e E + - # @", 4},
		{"16#", "1 F g _ . # + e @", 4},
		{"3", "6 7 0 # Z z 2 _", 4},
		{"'", "' \" \\ a \n \x7f é \xff \xc3 $", 4},
		{"\"", "' \" \\ a \n \x7f é \xff \t %", 4},
		{"$", "\\ x { } 1 7 8 F ^ a n é \n \x7f \xff D g", 3},
		{"$\\x{1", "0 F } g", 6},
		{"%", "a \t \r \n % é \xff . \v", 4},
		{"?", "? a Z _ 1 @ é \n .", 4},
		{"e", "n d D s _ @ 1 e", 4},
		{"", "= : / < > - | + .", 4},
		{"", ". % \n \t \r a 1 X _ @ ' \" \\ $ ? - ( end é \x00 \xff", 3},
	} {
		parts := append(strings.Split(x.parts, " "), " ")
		texts(x.head, parts, x.most, func(s string) { held(t, s) })
	}
}

// 6.2, 6.3: long texts of any parts; the same ones each time.
func TestLongTexts(t *testing.T) {
	parts := append(strings.Fields(signs+" "+words), " ", "\n", "\t", "\r\n", "%c\n", "% \t\n", ".\n", ". ", "a", "X", "_", "@", "1", "0", "16#FF", "1.5", "1.5e-3", "e", "'a b'", "\"a\"", "'", "\"", "\\", "$a", "$\\n", "$", "?M", "??m", "?", "é")
	random := rand.New(rand.NewSource(6))
	scanned := 0
	for range 20000 {
		var b strings.Builder
		for range random.Intn(12) {
			b.WriteString(parts[random.Intn(len(parts))])
			if random.Intn(2) == 0 {
				b.WriteByte(' ')
			}
		}
		held(t, b.String())
		if _, e := Scan(b.String()); e == api.OK {
			scanned++
		}
	}
	if scanned < 1000 {
		t.Fatal("too few texts that have tokens:", scanned)
	}
}

// 6.3: ordinary texts.
func TestScan(t *testing.T) {
	for _, x := range []struct{ s, want string }{
		{"", ""}, {" \r\n\t", ""}, {"a.b. ", "a|.|b|."}, {"f( )->ok.", "f|(|)|->|ok|."}, {"1..2", "1|.|.|2"}, {"%a\nf() -> ok. %b", "%a|f|(|)|->|ok|.|%b"},
		{"f(X) %c  \n -> a.", "f|(|X|)|%c|->|a|."}, {"a%b\n%c\n", "a|%b|%c"}, {"'a''b'", "'a'|'b'"}, {"#r{a=1}", "#|r|{|a|=|1|}"}, {"X#r.a", "X|#|r|.|a"}, {"fun m:f/1", "fun|m|:|f|/|1"}, {"-1.5e3.", "-|1.5e3|."},
		{"<<X:8/integer>>", "<<|X|:|8|/|integer|>>"}, {"a--b", "a|--|b"}, {"a- -b", "a|-|-|b"}, {"$a$b", "$a|$b"}, {"$'a'", ""}, {"?M?N", "?M|?N"}, {"\"a\"\"b\"", "\"a\"|\"b\""}, {"ж", ""}, {"%ж", "%ж"}, {"a.%b", "a|.|%b"}, {"a.\n", "a|."},
	} {
		list, e := Scan(x.s)
		var got []string
		for _, y := range list {
			got = append(got, y.Text)
		}
		wrong := x.want == "" && strings.TrimSpace(x.s) != ""
		if strings.Join(got, "|") != x.want || wrong != (e == api.ErrScan) || !wrong && e != api.OK {
			t.Errorf("Scan(%q): %q %d", x.s, got, e)
		}
	}
}

// 6.3: errors, the one that is told first, and nothing beside them.
func TestScanErrors(t *testing.T) {
	most := strings.Repeat(" ", api.MaxBytes)
	for _, x := range []struct {
		name, s string
		want    int
	}{
		{"as many bytes as may be", most, api.OK},
		{"one more", most + " ", api.ErrSize},
		{"one more, a token", "a" + most, api.ErrSize},
		{"too many, and no text", most + "\xff", api.ErrSize},
		{"too many, and no tokens", "\\" + most, api.ErrSize},
		{"as many code points as bytes may be", strings.Repeat("é", api.MaxBytes), api.ErrSize},
		{"as many bytes as may be, of two each", "%" + strings.Repeat("é", api.MaxBytes/2-1) + "a", api.OK},
		{"no text", "\xff", api.ErrUtf},
		{"no text behind no token", "\\ \xff", api.ErrUtf},
		{"no text in a comment", "a %\xff", api.ErrUtf},
		{"no text in a string", "\"\xff\"", api.ErrUtf},
		{"no text at the end of most", most[1:] + "\xff", api.ErrUtf},
		{"a text that is cut off", "%\xe2\x82", api.ErrUtf},
		{"half of a pair", "%\xed\xa0\x80", api.ErrUtf},
		{"not the shortest form", "%\xc0\x80", api.ErrUtf},
		{"no token at the end", "a b c \\", api.ErrScan},
		{"no token at the beginning", "\\ a", api.ErrScan},
		{"no token behind most", most[1:] + "\\", api.ErrScan},
		{"no end of a string", "a \"b", api.ErrScan},
		{"a blank that is none", "a\vb", api.ErrScan},
		{"another one", "a\u00a0b", api.ErrScan},
		{"a mark ahead of all", "\ufeffa", api.ErrScan},
	} {
		list, e := Scan(x.s)
		if e != x.want || e != api.OK && len(list) != 0 {
			t.Errorf("%s: %d tokens, %d", x.name, len(list), e)
		}
	}
}

// T1: Scan tells an error just of what is too long, no text, or has no tokens, and ends, also at the longest texts of each kind.
func TestScanEnds(t *testing.T) {
	for _, x := range []struct {
		head, part, tail string
		one              bool
	}{
		{"", "a", "", true}, {"", "A", "", true}, {"", "1", "", true}, {"1", "_1", "", true}, {"16#", "F", "", true}, {"16#F", "_F", "", true}, {"1.", "1", "", true}, {"1.1", "_1", "", true}, {"1.1e", "1", "", true}, {"1.1e-1", "_1", "", true},
		{"'", "a", "'", true}, {"\"", `\"`, "\"", true}, {"\"", "é", "\"", true}, {"%", "a", "", true}, {"%", "%", "", true}, {"%", " ", "", true}, {"?", "M", "", true},
		{"", "$a", "", false}, {"", `$\x{10FFFF}`, "", false}, {"", ".", "", false}, {"", "(", "", false}, {"", "=:=", "", false}, {"", "1.", "", false}, {"", "1.1+", "", false}, {"", "?M", "", false}, {"", "%\n", "", false}, {"", "a ", "", false}, {"", ".\n", "", false}, {"", "''", "", false}, {"", "?M.", "", false}, {"", "16#1#", "", false},
	} {
		s := x.head + strings.Repeat(x.part, (api.MaxBytes-len(x.head)-len(x.tail))/len(x.part)) + x.tail
		list, e := Scan(s)
		if e != api.OK || len(list) == 0 || x.one != (len(list) == 1) {
			t.Errorf("%q, %q again and again, %q: %d tokens, %d", x.head, x.part, x.tail, len(list), e)
			continue
		}
		between(t, s, list)
	}
	for _, part := range []string{"'", "\"a", "1_", "1a", "16#G", "?", "$ ", "\\", "\x00", "1.1e+", "é", "@"} {
		s := strings.Repeat(part, api.MaxBytes/len(part)-1) + "\\"
		if list, e := Scan(s); e != api.ErrScan || len(list) != 0 {
			t.Errorf("%q again and again: %d tokens, %d", part, len(list), e)
		}
	}
}

// between fails unless s is the tokens of the list, where they say, and blanks between.
func between(t *testing.T, s string, list []api.Token) {
	t.Helper()
	at := 0
	for _, x := range list {
		if x.At < at || strings.Trim(s[at:x.At], " \t\r\n") != "" || x.Text == "" || !strings.HasPrefix(s[x.At:], x.Text) {
			t.Fatalf("%.40q: %v behind %d", s, x, at)
		}
		at = x.At + len(x.Text)
	}
	if strings.Trim(s[at:], " \t\r\n") != "" {
		t.Fatalf("%.40q: rest from %d on", s, at)
	}
}

// 6.4: a text is its tokens and the blanks between them; a token is one alone, too.
func TestBetween(t *testing.T) {
	for _, s := range []string{
		"", " ", "\n\na\n\n", "%% a \t\n-f('x\\'y', \"z\", $\\n, $%, 1.5e3, 16#FF, ?M, ??X, _a@)-> end.\r\n a.b.%c",
		"f(X) when X > 1; X < 2 ->\n    case X of\n        {a, _} -> [1 | X]; % no\n        #r{a = $\\x{41}} -> <<X:8/binary>>\n    end.\n", "a.\tb.\rc.%d  \n\n\n", "'é' \"é\" $é %é",
	} {
		list, e := Scan(s)
		if e != api.OK {
			t.Fatalf("Scan(%q): %d", s, e)
		}
		between(t, s, list)
		for _, x := range list {
			if x.Kind == api.TSign && x.Text == "." { // at the end of a text it is a TDot
				continue
			}
			alone, e := Scan(x.Text)
			if e != api.OK || len(alone) != 1 || alone[0] != (api.Token{Kind: x.Kind, Text: x.Text}) {
				t.Errorf("%v alone: %v %d", x, alone, e)
			}
		}
	}
}

// What is answered is the caller's own: no bytes of it are bytes of what was handed in.
func TestOwn(t *testing.T) {
	s := strings.Clone("foo(Bar, 'b z', \"long one\"). %c")
	from := uintptr(unsafe.Pointer(unsafe.StringData(s)))
	list, _ := Scan(s)
	if len(list) == 0 {
		t.Fatal("no tokens")
	}
	for _, x := range list {
		at := uintptr(unsafe.Pointer(unsafe.StringData(x.Text)))
		if at >= from && at < from+uintptr(len(s)) {
			t.Errorf("%v is a piece of the text", x)
		}
	}
	again, _ := Scan(s)
	list[0] = api.Token{}
	if again[0].Text != "foo" {
		t.Error("two answers share tokens")
	}
}
