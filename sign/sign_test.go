package sign

import (
	"math"
	"slices"
	"strings"
	"testing"

	"galley/api"
)

// signs are the chapter's signs, all of them, in its order.
const signs = "=:= =/= << >> -> <- <= => := :: == /= =< >= || ++ -- ( ) { } [ ] , ; : = | ! # + - * / < > ."

// longest is the chapter's words read anew: of all signs that the text from at on begins with, the greatest length.
func longest(s string, at int) int {
	n := 0
	for _, sign := range strings.Fields(signs) {
		if at >= 0 && at < len(s) && strings.HasPrefix(s[at:], sign) {
			n = max(n, len(sign))
		}
	}
	return n
}

// 5.1: each sign alone, at the end of a text, and ahead of what goes on no sign.
func TestLongestEach(t *testing.T) {
	if n := len(strings.Fields(signs)); n != 37 {
		t.Fatal(n)
	}
	for _, sign := range strings.Fields(signs) {
		for _, behind := range []string{"", " ", "a", "A", "_", "0", "\n", "\x00", "\x00\x00", "é", "\xff", "?", "\"", "'", "$", "%"} {
			if n := Longest(sign+behind, 0); n != len(sign) {
				t.Errorf("Longest(%q, 0): %d", sign+behind, n)
			}
			if n := Longest("é"+sign+behind, 2); n != len(sign) {
				t.Errorf("Longest(%q, 2): %d", "é"+sign+behind, n)
			}
		}
	}
}

// 5.1: ordinary texts, the longest where several stand there, and texts without a sign.
func TestLongest(t *testing.T) {
	for _, x := range []struct {
		s    string
		at   int
		want int
	}{
		{"=:=", 0, 3}, {"=:=", 1, 2}, {"=:=", 2, 1},
		{"=/=", 0, 3}, {"=/=", 1, 2}, {"=:", 0, 1}, {"=/", 0, 1}, {"=:/", 0, 1}, {"=:==", 0, 3}, {"==:=", 0, 2},
		{"<<<", 0, 2}, {"<<-", 0, 2}, {"<-", 0, 2}, {"<=", 0, 2}, {"<<=", 0, 2}, {"<=<", 0, 2}, {"=<<", 0, 2},
		{"->", 0, 2}, {"->>", 0, 2}, {"-->", 0, 2}, {"---", 0, 2}, {"---", 1, 2}, {"---", 2, 1}, {"- -", 0, 1},
		{"::", 0, 2}, {":::", 0, 2}, {":=:", 0, 2}, {"::=", 0, 2}, {":", 0, 1},
		{"||", 0, 2}, {"|||", 0, 2}, {"|", 0, 1}, {"++", 0, 2}, {"+++", 0, 2},
		{">=", 0, 2}, {">>=", 0, 2}, {"=>", 0, 2}, {"=>>", 0, 2}, {"/=", 0, 2}, {"/==", 0, 2}, {"*=", 0, 1}, {"**", 0, 1},
		{".", 0, 1}, {"..", 0, 1}, {"...", 0, 1}, {".\n", 0, 1}, {",,", 0, 1}, {"()", 0, 1}, {"#{", 0, 1}, {"!=", 0, 1}, {"!", 0, 1},
		{"a->", 0, 0}, {"a->", 1, 2}, {"a->", 2, 1}, {"a->", 3, 0},
		{"", 0, 0}, {" ", 0, 0}, {"\n", 0, 0}, {"?", 0, 0}, {"??", 0, 0}, {"$", 0, 0}, {"%", 0, 0}, {"\"", 0, 0}, {"'", 0, 0}, {"\\", 0, 0},
		{"@", 0, 0}, {"&", 0, 0}, {"^", 0, 0}, {"~", 0, 0}, {"`", 0, 0}, {"_", 0, 0}, {"0", 0, 0}, {"a", 0, 0}, {"and", 0, 0},
		{"\x00", 0, 0}, {"\x00\x00\x00", 0, 0}, {"=\x00", 0, 1}, {"=\x00=", 0, 1}, {"=:\x00", 0, 1}, {"\x00=", 0, 0},
		{"é", 0, 0}, {"é", 1, 0}, {"＝", 0, 0}, {"«", 0, 0}, {"\xff", 0, 0},
		{"=", -1, 0}, {"=", 1, 0}, {"=", 2, 0}, {"", -1, 0}, {"", 1, 0}, {"=:=", math.MinInt, 0}, {"=:=", math.MaxInt, 0},
	} {
		if n := Longest(x.s, x.at); n != x.want {
			t.Errorf("Longest(%q, %d): %d, not %d", x.s, x.at, n, x.want)
		}
	}
}

// 5.1: every text of up to three bytes.
func TestLongestAll(t *testing.T) {
	held := func(b []byte) {
		if s := string(b); Longest(s, 0) != longest(s, 0) {
			t.Errorf("Longest(%q, 0): %d", s, Longest(s, 0))
		}
	}
	for x := range 256 {
		held([]byte{byte(x)})
		for y := range 256 {
			held([]byte{byte(x), byte(y)})
		}
	}
	const parts = "=:/<>-|+(){}[],;!#*.?$ a\x00\xff"
	for x := range len(parts) {
		for y := range len(parts) {
			for z := range len(parts) {
				held([]byte{parts[x], parts[y], parts[z]})
			}
		}
	}
}

// 5.1: every text of five of the bytes that longer signs have, at each place.
func TestLongestPlaces(t *testing.T) {
	const parts = "=:/<>-|+"
	for x := range 1 << 15 {
		var b [5]byte
		for at := range b {
			b[at] = parts[x>>(3*at)&7]
		}
		s := string(b[:])
		for at := -1; at <= len(s)+1; at++ {
			if n := Longest(s, at); n != longest(s, at) {
				t.Fatalf("Longest(%q, %d): %d", s, at, n)
			}
		}
	}
}

// kinds are all kinds of tokens, and numbers that are none.
var kinds = []int{
	api.TAtom, api.TVar, api.TInt, api.TFloat, api.TChar, api.TString, api.TMacro, api.TWord, api.TSign, api.TDot, api.TComment,
	0, -1, 12, api.TSign + 256, math.MinInt, math.MaxInt,
}

// texts are all signs, the reserved words, and what only looks like what opens or closes.
func texts() []string {
	list := strings.Fields(signs)
	list = append(list, strings.Fields("after and andalso band begin bnot bor bsl bsr bxor case catch div end fun if not of or orelse receive rem when xor")...)
	return append(list, "", " ", "a", "try", "maybe", "else", "Begin", "END", "end.", " end", "end ", "begin ", "#{", "((", "()", "( ", " (", "))", "<<<", ">>>", "<< ", "\x00", "(\x00", "\xff", "（", "«", "'begin'", "?end")
}

// 5.2 Opens, Closes: each kind beside each text.
func TestOpensCloses(t *testing.T) {
	opens := map[int][]string{api.TSign: {"(", "{", "[", "<<"}, api.TWord: {"begin", "case", "if", "receive"}}
	closes := map[int][]string{api.TSign: {")", "}", "]", ">>"}, api.TWord: {"end"}}
	for _, kind := range kinds {
		for _, s := range texts() {
			for _, at := range []int{0, 7, -1} {
				token := api.Token{Kind: kind, Text: s, At: at}
				if want := slices.Contains(opens[kind], s); Opens(token) != want {
					t.Errorf("Opens(%d %q): not %v", kind, s, want)
				}
				if want := slices.Contains(closes[kind], s); Closes(token) != want {
					t.Errorf("Closes(%d %q): not %v", kind, s, want)
				}
			}
		}
	}
}

// 5.2 Pair: each text.
func TestPair(t *testing.T) {
	pairs := []struct{ open, close string }{{"(", ")"}, {"{", "}"}, {"[", "]"}, {"<<", ">>"}}
	for _, p := range pairs {
		if got := Pair(p.open); got != p.close {
			t.Errorf("Pair(%q): %q", p.open, got)
		}
		if !Opens(api.Token{Kind: api.TSign, Text: p.open}) || !Closes(api.Token{Kind: api.TSign, Text: Pair(p.open)}) {
			t.Errorf("%q: what it has closes nothing", p.open)
		}
	}
	for _, s := range texts() {
		if s == "(" || s == "{" || s == "[" || s == "<<" {
			continue
		}
		if got := Pair(s); got != "" {
			t.Errorf("Pair(%q): %q", s, got)
		}
	}
}
