package gap

import (
	"math"
	"slices"
	"strings"
	"testing"

	"galley/api"
	"galley/scan"
	"galley/sign"
)

// tokens are those of s.
func tokens(t *testing.T, s string) []api.Token {
	t.Helper()
	l, e := scan.Scan(s)
	if e != api.OK {
		t.Fatalf("Scan(%q): %d", s, e)
	}
	return l
}

// flags holds Broken and Blank of the token k of l against how many bytes 10 there are.
func flags(t *testing.T, s string, l []api.Token, k, ends int) {
	t.Helper()
	if got := Broken(s, l, k); got != (ends >= 1) {
		t.Fatalf("Broken(%q, %v, %d): %v", s, l, k, got)
	}
	if got := Blank(s, l, k); got != (ends >= 2) {
		t.Fatalf("Blank(%q, %v, %d): %v", s, l, k, got)
	}
}

// 7.1 End: its At and its length, in bytes.
func TestEnd(t *testing.T) {
	for _, x := range []struct {
		token api.Token
		want  int
	}{
		{api.Token{}, 0},
		{api.Token{Kind: api.TAtom, Text: "a"}, 1},
		{api.Token{Kind: api.TAtom, Text: "a", At: 4}, 5},
		{api.Token{Kind: api.TSign, Text: "=:=", At: 7}, 10},
		{api.Token{Kind: api.TDot, Text: ".", At: api.MaxBytes - 1}, api.MaxBytes},
		{api.Token{Kind: api.TString, Text: `"é€𝄞"`, At: 2}, 13},
		{api.Token{Kind: api.TComment, Text: "%", At: 3}, 4},
		{api.Token{Kind: api.TAtom, At: 9}, 9},
		{api.Token{Kind: -1, Text: "ab", At: 1}, 3},
		{api.Token{Text: "\xff\n", At: 1}, 3},
		{api.Token{Text: "abc", At: -1}, 2},
		{api.Token{Text: "a", At: math.MinInt}, math.MinInt + 1},
		{api.Token{At: math.MaxInt}, math.MaxInt},
		{api.Token{Text: "a", At: math.MaxInt}, math.MinInt},
	} {
		if got := End(x.token); got != x.want {
			t.Errorf("End(%v): %d, not %d", x.token, got, x.want)
		}
	}
	s := "f('é', \"ab\") -> $\\n. %c"
	for _, x := range tokens(t, s) {
		if !strings.HasSuffix(s[:End(x)], x.Text) {
			t.Errorf("End(%v): %d", x, End(x))
		}
	}
}

// 7.1 Broken, Blank: two tokens, and how many bytes 10 stand between them.
func TestFlags(t *testing.T) {
	for _, x := range []struct {
		name, s string
		ends    int
	}{
		{"nothing between", "{a", 0},
		{"a blank", "a b", 0},
		{"blanks without a byte 10", "a \t \r  b", 0},
		{"13 alone", "a\r\r\rb", 0},
		{"a byte 10", "a\nb", 1},
		{"blanks ahead of it", "a \t\r\nb", 1},
		{"blanks behind it", "a\n \t\rb", 1},
		{"13 and 10", "a\r\nb", 1},
		{"two", "a\n\nb", 2},
		{"two, blanks around each", "a \n \t\r\n b", 2},
		{"13 and 10, twice", "a\r\n\r\nb", 2},
		{"10, then 13, then 10", "a\n\r\nb", 2},
		{"three", "a\n\n\nb", 3},
		{"257, which a byte does not count", "a" + strings.Repeat("\n", 257) + "b", 257},
		{"256", "a" + strings.Repeat("\n", 256) + "b", 256},
		{"bytes 10 ahead of both", "\n\na b", 0},
		{"bytes 10 behind both", "a b\n\n", 0},
		{"bytes 10 around both", "\n\n\na b\n\n\n", 0},
		{"one between, more around", "\n\n\na\nb\n\n\n", 1},
		{"a comment behind", "a\n%c", 1},
		{"a comment in the line", "a %c", 0},
		{"a comment ahead", "%c\na", 1},
		{"a comment whose blanks are none of it", "%c  \t\r\n\na", 2},
		{"the end of a form", "a\n\n.", 2},
		{"ahead of a form", ".\na", 1},
		{"longer tokens", "'é€'\n\"𝄞\"", 1},
		{"a text that tells of a byte 10", `"\n" "\n"`, 0},
		{"chars that tell of one", `$\n $\n`, 0},
		{"a code point with bytes 8A and A", "'\u010a' \"\u0a0a\"", 0},
	} {
		t.Run(x.name, func(t *testing.T) {
			l := tokens(t, x.s)
			if len(l) != 2 {
				t.Fatal(l)
			}
			flags(t, x.s, l, 1, x.ends)
		})
	}
}

// 7.1 Broken, Blank: the gap ahead of k counts, no other one; a comment is a token.
func TestFlagsEach(t *testing.T) {
	s := "\n\nf(\n  a, %c\n\n  %d\n  b\n\n\n) ->\n c.\n\n"
	want := []int{0, 0, 1, 0, 0, 2, 1, 3, 0, 1, 0}
	l := tokens(t, s)
	if len(l) != len(want) {
		t.Fatal(l)
	}
	for k, ends := range want {
		flags(t, s, l, k, ends)
	}
}

// numbers are such as no token of a list has.
func numbers(l []api.Token) []int {
	return []int{0, -1, -2, math.MinInt, math.MinInt + 1, math.MinInt32, len(l), len(l) + 1, math.MaxInt32, math.MaxInt - 1, math.MaxInt}
}

// 7.1 Broken, Blank: false, unless k is from 1 to len(l) - 1.
func TestFlagsNumbers(t *testing.T) {
	for _, s := range []string{"", "\n\n", "a", "\n\na\n\n", "a\n\nb", "\n\na\n\nb\n\n", "\n\na\n\nb\n\nc\n\n"} {
		l := tokens(t, s)
		for _, k := range numbers(l) {
			flags(t, s, l, k, 0)
		}
		for k := 1; k < len(l); k++ {
			flags(t, s, l, k, 2)
		}
	}
	for _, k := range append(numbers(nil), 1, 2) {
		flags(t, "\n\n", nil, k, 0)
		flags(t, "\n\n", []api.Token{}, k, 0)
		flags(t, "", nil, k, 0)
	}
	// What stands behind the list's end in its array is none of it.
	s := "a\n\nb\n\nc"
	l := tokens(t, s)[:2]
	flags(t, s, l, 1, 2)
	flags(t, s, l, 2, 0)
}

// 7.1 Broken, Blank: false, unless the tokens stand in s one behind the other.
func TestFlagsPlaces(t *testing.T) {
	const s = "aa\n\nbb\n"
	ahead, behind := api.Token{Kind: api.TAtom, Text: "aa"}, api.Token{Kind: api.TAtom, Text: "bb", At: 4}
	flags(t, s, []api.Token{ahead, behind}, 1, 2)
	for _, x := range []struct {
		name          string
		s             string
		ahead, behind api.Token
	}{
		{"the other way round", s, behind, ahead},
		{"the chapter's kind, the other way round", "\n\n\n", api.Token{Text: "a", At: 2}, api.Token{Text: "b"}},
		{"one token twice", s, ahead, ahead},
		{"one inside of the other", "a\n\na", api.Token{Text: "a\n\na"}, api.Token{Text: "a", At: 3}},
		{"over one another", "\n\n\n\n", api.Token{Text: "\n\n\n"}, api.Token{Text: "\n\n", At: 2}},
		{"no text", "", ahead, behind},
		{"a text that is cut off behind the first one", s[:2], ahead, behind},
		{"cut off ahead of the second one", s[:4], ahead, behind},
		{"cut off within the second one", s[:5], ahead, behind},
		{"the second one beyond the end", s, ahead, api.Token{Text: "bb", At: 8}},
		{"the first one below 0", s, api.Token{Text: "aa", At: -2}, behind},
		{"the first one just below 0", s, api.Token{Text: "aa", At: -1}, behind},
		{"both below 0", s, api.Token{Text: "aa", At: -9}, api.Token{Text: "bb", At: -4}},
		{"the second one below 0", s, ahead, api.Token{Text: "bb", At: -4}},
		{"the smallest number", s, api.Token{Text: "aa", At: math.MinInt}, behind},
		{"the smallest numbers", s, api.Token{Text: "aa", At: math.MinInt}, api.Token{Text: "bb", At: math.MinInt + 4}},
		{"the greatest number", s, ahead, api.Token{Text: "bb", At: math.MaxInt}},
		{"the greatest number, whose end is below 0", s, api.Token{Text: "aa", At: math.MaxInt}, behind},
		{"the greatest numbers", s, api.Token{Text: "aa", At: math.MaxInt - 2}, api.Token{Text: "bb", At: math.MaxInt}},
		{"the greatest number, no bytes", s, ahead, api.Token{At: math.MaxInt}},
		{"other bytes for the first one", s, api.Token{Text: "ab"}, behind},
		{"other bytes for the second one", s, ahead, api.Token{Text: "ba", At: 4}},
		{"another text's", "cc\n\ndd\n", ahead, behind},
		{"more bytes than there are", s, ahead, api.Token{Text: "bb\n\n", At: 4}},
	} {
		t.Run(x.name, func(t *testing.T) {
			flags(t, x.s, []api.Token{x.ahead, x.behind}, 1, 0)
		})
	}
}

// 7.1 Broken, Blank: how the two stand, of any kind, is asked; how others stand is not; what is between them, if they are not all tokens, is bytes.
func TestFlagsOthers(t *testing.T) {
	const s = "a\nb %c\nd"
	l := tokens(t, s)
	a, b, d := l[0], l[1], l[3]
	far := api.Token{Kind: api.TAtom, Text: "far", At: 99}
	flags(t, s, []api.Token{far, a, b, far}, 2, 1)
	flags(t, s, []api.Token{far, a, b, far}, 1, 0)
	flags(t, s, []api.Token{far, a, b, far}, 3, 0)
	flags(t, s, []api.Token{b, a, b}, 2, 1)
	flags(t, s, []api.Token{a, d}, 1, 2)
	flags(t, s, []api.Token{b, d}, 1, 1)
	flags(t, s, []api.Token{{Kind: 0, Text: "a"}, {Kind: -1, Text: "d", At: 7}}, 1, 2)
	flags(t, "\xff\n\x80\n\xff", []api.Token{{Text: "\xff"}, {Text: "\xff", At: 4}}, 1, 2)
	flags(t, "\n\n", []api.Token{{}, {At: 2}}, 1, 2)
	flags(t, "\n\n", []api.Token{{At: 1}, {At: 1}}, 1, 0)
	flags(t, "", []api.Token{{}, {}}, 1, 0)
}

// extend calls hold with each list of up to most of the parts.
func extend[T any](head, parts []T, most int, hold func(l []T)) {
	hold(head)
	if most == 0 {
		return
	}
	for _, p := range parts {
		extend(append(slices.Clone(head), p), parts, most-1, hold)
	}
}

// 7.1 Broken, Blank: every text of up to seven parts, against a count from its beginning on.
func TestFlagsAll(t *testing.T) {
	extend(nil, []string{"\n", " ", "a ", "%c\n", "\r"}, 7, func(parts []string) {
		s := strings.Join(parts, "")
		l := tokens(t, s)
		ends := make([]int, len(l)+1)
		k := 0
		for at := range len(s) {
			if k < len(l) && at == l[k].At {
				k++
			}
			if s[at] == 10 && k > 0 {
				ends[k]++
			}
		}
		ends[len(l)] = 0
		for k, n := range ends {
			flags(t, s, l, k, n)
		}
	})
}

// 7.1 Broken, Blank: a text as long as the formatter takes, with one gap, and with one at each second byte.
func TestFlagsLong(t *testing.T) {
	s := "a" + strings.Repeat("\n", api.MaxBytes-2) + "b"
	flags(t, s, tokens(t, s), 1, api.MaxBytes-2)
	s = "a" + strings.Repeat(" ", api.MaxBytes-3) + "\nb"
	flags(t, s, tokens(t, s), 1, 1)
	s = strings.Repeat("a\n", api.MaxBytes/2)
	l := tokens(t, s)
	for k := range l {
		flags(t, s, l, k, min(k, 1))
	}
}

// 7.1 Deep: ordinary texts and the edges.
func TestDeep(t *testing.T) {
	for _, x := range []struct {
		s    string
		want int
	}{
		{"", 0}, {"a", 0}, {"%((((", 0}, {"a. b. c.", 0}, {"'(' \"((\" $( ?X", 0}, {"a -> b", 0},
		{"f([{1}])", 3}, {"()", 1}, {"(())", 2}, {"()()", 1}, {"(()())", 2}, {"(", 1}, {"((", 2}, {"{", 1}, {"[", 1}, {"<<", 1},
		{"({[<<a>>]})", 4}, {"<< << >> >>", 2}, {"#{a => {b}}", 2}, {"#r{a = 1}", 1}, {"[X || X <- [a]]", 2},
		{"(]", 1}, {"(](", 1}, {"( } [", 1}, {"( end ( end", 1}, {"begin ) begin )", 1},
		{")", 0}, {"))))", 0}, {")))(", 1}, {")))((", 2}, {"())(", 1}, {"())))((()", 3}, {"end end begin", 1}, {"end begin", 1}, {">> <<", 1},
		{"begin a end", 1}, {"case a of b -> c end", 1}, {"if a -> b end", 1}, {"receive a -> b after c -> d end", 1},
		{"begin begin begin a end end end", 3}, {"begin a end, begin b end", 1}, {"case begin a end of b -> if c -> d end end", 2},
		{"of after when catch fun not", 0}, {"try maybe else", 0}, {"'begin' 'case' 'if' 'receive'", 0}, {"?begin ?case (", 1},
		{"fun() -> a end", 2}, {"fun(X) -> case Y of _ -> {X} end end", 3}, {"fun ( X ) -> a end", 2}, {"fun\n\n(X) -> a end", 2},
		{"fun f/1", 0}, {"fun a/1", 0}, {"fun m:f/1", 0}, {"fun ?M:?F/?A", 0}, {"(fun f/1)", 1}, {"(fun f/1, (a))", 2},
		{"fun", 0}, {"fun fun", 0}, {"fun {", 1}, {"fun [", 1}, {"fun <<", 1}, {"fun )", 0}, {"fun begin", 1}, {"fun fun (", 2}, {"fun f (", 1},
		{"fun %c\n(", 1}, {"fun %(\n(", 1}, {"fun ( fun ( fun (", 6}, {"fun (a) -> fun (b) -> c end end", 3},
		{"fun (a) -> b; (c) -> d end, fun (e) -> f end", 2}, {"'fun'(", 1}, {"?fun(", 1}, {"Fun(", 1}, {"fun'('", 0},
		{"f(( %(((\n))", 2}, {"f() -> (a. g() -> (b.", 2}, {"(a. (b. (c", 3}, {"f() -> a. g() -> (b).", 1},
	} {
		if got := Deep(tokens(t, x.s)); got != x.want {
			t.Errorf("Deep of %q: %d, not %d", x.s, got, x.want)
		}
	}
	if Deep(nil) != 0 || Deep([]api.Token{}) != 0 {
		t.Error("no tokens")
	}
}

// kinds are all kinds of tokens, and numbers that are none.
var kinds = []int{
	api.TAtom, api.TVar, api.TInt, api.TFloat, api.TChar, api.TString, api.TMacro, api.TWord, api.TSign, api.TDot, api.TComment,
	0, -1, 12, api.TSign + 256, math.MinInt, math.MaxInt,
}

// texts are all signs and reserved words, and what only looks like one that counts.
func texts() []string {
	list := strings.Fields("=:= =/= << >> -> <- <= => := :: == /= =< >= || ++ -- ( ) { } [ ] , ; : = | ! # + - * / < > .")
	list = append(list, strings.Fields("after and andalso band begin bnot bor bsl bsr bxor case catch div end fun if not of or orelse receive rem when xor")...)
	return append(list, "", " ", "a", "try", "maybe", "Begin", "END", " end", "end ", "begin ", "#{", "((", "()", "( ", "))", "<<<", ">>>", "\x00", "(\x00", "\xff", "Fun", "fun(", "fun (")
}

// 7.1 Deep, 5.2: what counts is what sign.Opens and sign.Closes tell, of each kind beside each text; places do not count.
func TestDeepSigns(t *testing.T) {
	open := api.Token{Kind: api.TSign, Text: "("}
	for _, kind := range kinds {
		for _, s := range texts() {
			x := api.Token{Kind: kind, Text: s, At: len(s) - 2}
			alone, more := 0, 2
			if sign.Opens(x) {
				alone, more = 1, 3
			}
			if sign.Closes(x) {
				more = 1
			}
			if got := Deep([]api.Token{x}); got != alone {
				t.Errorf("Deep of %v: %d", x, got)
			}
			if got := Deep([]api.Token{open, x, {Kind: api.TSign, Text: "{"}}); got != more {
				t.Errorf("Deep of ( %v {: %d, not %d", x, got, more)
			}
		}
	}
}

// 7.1 Deep: a fun counts if it is a TWord and a TSign ( stands next in the list; of each kind beside each text.
func TestDeepFun(t *testing.T) {
	word, open := api.Token{Kind: api.TWord, Text: "fun"}, api.Token{Kind: api.TSign, Text: "("}
	for _, kind := range kinds {
		for _, s := range texts() {
			x := api.Token{Kind: kind, Text: s}
			want := Deep([]api.Token{x})
			if x == open {
				want++
			}
			if got := Deep([]api.Token{word, x}); got != want {
				t.Errorf("Deep of fun %v: %d, not %d", x, got, want)
			}
			want = 1 + Deep([]api.Token{x})
			if x == word {
				want++
			}
			if got := Deep([]api.Token{x, open}); got != want {
				t.Errorf("Deep of %v (: %d, not %d", x, got, want)
			}
		}
	}
	// What stands behind the list's end in its array is not next.
	l := []api.Token{open, word, open}
	if got := Deep(l[:2]); got != 1 {
		t.Error(got)
	}
}

// deep is the chapter's words by another way: the sum up to each token, less the lowest sum up to there, is the number that is never below 0.
func deep(l []api.Token) int {
	sum, lowest, most := 0, 0, 0
	for k, x := range l {
		switch {
		case sign.Opens(x), x.Kind == api.TWord && x.Text == "fun" && k+1 < len(l) && l[k+1].Kind == api.TSign && l[k+1].Text == "(":
			sum++
		case sign.Closes(x):
			sum--
		}
		lowest = min(lowest, sum)
		most = max(most, sum-lowest)
	}
	return most
}

// 7.1 Deep: every list of up to seven of the tokens that count.
func TestDeepAll(t *testing.T) {
	parts := []api.Token{
		{Kind: api.TSign, Text: "("},
		{Kind: api.TSign, Text: ")"},
		{Kind: api.TWord, Text: "fun"},
		{Kind: api.TWord, Text: "case"},
		{Kind: api.TWord, Text: "end"},
		{Kind: api.TComment, Text: "%("},
	}
	extend(nil, parts, 7, func(l []api.Token) {
		if got, want := Deep(l), deep(l); got != want {
			t.Fatalf("Deep of %v: %d, not %d", l, got, want)
		}
	})
}

// T1, 7.1 Deep: texts around the depth that the formatter takes, and as deep as a text can be.
func TestDeepLong(t *testing.T) {
	for _, n := range []int{0, 1, 99, 100, 101, 127, 128, 255, 256, 257, api.MaxBytes / 2} {
		for _, x := range []struct {
			name, s string
			want    int
		}{
			{"( and )", strings.Repeat("(", n) + strings.Repeat(")", n), n},
			{"more that closes, ahead of it", strings.Repeat("}", n) + strings.Repeat("{", n), n},
			{"one after the other", strings.Repeat("[]", n), min(n, 1)},
			{"closed, and again", strings.Repeat("(", n/2) + strings.Repeat(")", n/2) + strings.Repeat("[", n/2), n / 2},
		} {
			if got := Deep(tokens(t, x.s)); got != x.want {
				t.Errorf("%s, %d: %d, not %d", x.name, n, got, x.want)
			}
		}
	}
	for _, n := range []int{49, 50, 51} {
		s := strings.Repeat("fun(X) -> ", n) + "X" + strings.Repeat(" end", n)
		if got := Deep(tokens(t, s)); got != n+1 {
			t.Errorf("%d funs: %d", n, got)
		}
		s = strings.Repeat("f(begin ", n) + "X" + strings.Repeat(" end)", n)
		if got := Deep(tokens(t, s)); got != 2*n || (got > api.MaxDeep) != (n > 50) {
			t.Errorf("%d blocks: %d", n, got)
		}
	}
}

// Rules 2 and 3: what is handed in stays as it is, and the same call gives the same answer.
func TestOwn(t *testing.T) {
	s := "f(\n\n{a,\n%c\n fun(X) -> X end})."
	l := tokens(t, s)
	kept := slices.Clone(l)
	for range 2 {
		for k := -1; k <= len(l); k++ {
			if one, two := Broken(s, l, k), Broken(s, l, k); one != two {
				t.Errorf("Broken, %d", k)
			}
			if one, two := Blank(s, l, k), Blank(s, l, k); one != two {
				t.Errorf("Blank, %d", k)
			}
		}
		if got := Deep(l); got != 4 {
			t.Error(got)
		}
	}
	if !slices.Equal(l, kept) {
		t.Error(l)
	}
}
