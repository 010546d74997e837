package ops

import (
	"slices"
	"strconv"
	"strings"
	"testing"
)

// levels are the chapter's operators, all of them, in its order, behind the number of their level.
const levels = "1 :: 2 | 3 = ! 4 orelse 5 andalso 6 == /= =< < >= > =:= =/= 7 ++ -- 8 + - bor bxor bsl bsr or xor 9 * / div rem band and"

// prefixes are the chapter's operators ahead of their operand.
const prefixes = "+ - not bnot"

// others are signs and reserved words that are no operator.
const others = "<< >> -> <- <= => := || ( ) { } [ ] , ; : # . after begin case catch end fun if of receive when"

// answers are what the calls answer of an operator.
type answers struct{ binary, side, prefix, left, right int }

// asked are the answers of s.
func asked(s string) answers {
	return answers{Binary(s), Side(s), Prefix(s), Left(s), Right(s)}
}

// listed are the operators between two operands, with their levels, read out of the chapter's words.
func listed() map[string]int {
	list, level := map[string]int{}, 0
	for _, s := range strings.Fields(levels) {
		if n, err := strconv.Atoi(s); err == nil {
			level = n
			continue
		}
		list[s] = level
	}
	return list
}

// wanted are the answers of s by the chapter's words, where list is what listed answers.
func wanted(s string, list map[string]int) answers {
	var w answers
	if slices.Contains(strings.Fields(prefixes), s) {
		w.prefix = 10
	}
	w.binary = list[s]
	switch own := w.binary; own {
	case 2, 8, 9:
		w.side, w.left, w.right = 1, own, own+1
	case 1, 3, 4, 5, 7:
		w.side, w.left, w.right = 2, own+1, own
	case 6:
		w.side, w.left, w.right = 3, own+1, own+1
	}
	return w
}

// holder makes what holds the answers of a text against the chapter's words.
func holder(t *testing.T) func(s string) {
	list := listed()
	return func(s string) {
		t.Helper()
		if got, want := asked(s), wanted(s, list); got != want {
			t.Errorf("%.40q: %v, not %v", s, got, want)
		}
	}
}

// 9.1, 9.2: each operator, with its numbers written out.
func TestOperators(t *testing.T) {
	all := map[string]answers{
		"::": {1, 2, 0, 2, 1},
		"|":  {2, 1, 0, 2, 3},
		"=":  {3, 2, 0, 4, 3}, "!": {3, 2, 0, 4, 3},
		"orelse":  {4, 2, 0, 5, 4},
		"andalso": {5, 2, 0, 6, 5},
		"==":      {6, 3, 0, 7, 7}, "/=": {6, 3, 0, 7, 7}, "=<": {6, 3, 0, 7, 7}, "<": {6, 3, 0, 7, 7},
		">=": {6, 3, 0, 7, 7}, ">": {6, 3, 0, 7, 7}, "=:=": {6, 3, 0, 7, 7}, "=/=": {6, 3, 0, 7, 7},
		"++": {7, 2, 0, 8, 7}, "--": {7, 2, 0, 8, 7},
		"+": {8, 1, 10, 8, 9}, "-": {8, 1, 10, 8, 9},
		"bor": {8, 1, 0, 8, 9}, "bxor": {8, 1, 0, 8, 9}, "bsl": {8, 1, 0, 8, 9}, "bsr": {8, 1, 0, 8, 9}, "or": {8, 1, 0, 8, 9}, "xor": {8, 1, 0, 8, 9},
		"*": {9, 1, 0, 9, 10}, "/": {9, 1, 0, 9, 10}, "div": {9, 1, 0, 9, 10}, "rem": {9, 1, 0, 9, 10}, "band": {9, 1, 0, 9, 10}, "and": {9, 1, 0, 9, 10},
		"not": {0, 0, 10, 0, 0}, "bnot": {0, 0, 10, 0, 0},
	}
	for s, want := range all {
		if got := asked(s); got != want {
			t.Errorf("%q: %v, not %v", s, got, want)
		}
	}
	list := listed()
	if len(all) != 32 || len(list) != 30 {
		t.Error(len(all), len(list))
	}
	for s := range list {
		if all[s] != wanted(s, list) {
			t.Errorf("%q: %v by the chapter", s, wanted(s, list))
		}
	}
}

// 9.1, 9.2: what is no operator has 0 everywhere.
func TestNone(t *testing.T) {
	list := strings.Fields(others)
	list = append(list, "", " ", "\n", "\x00", "a", "X", "_", "0", "1.5", "$+", "\"+\"", "'and'", "'not'", "?and",
		"+ ", " +", "+\n", "+\x00", "\x00+", "- -", "= =", "and also", "and and", "or else", "orelse\n", "not ", " not", "not not", "b and",
		"AND", "And", "Not", "ANDALSO", "Div", "===", "=:", "=/", ":=:", "!=", "<>", "**", "//", "&", "&&", "^", "~", "%", "?", "??", "?=", "?:",
		"mod", "shl", "maybe", "else", "try", "is", "in", "xnor", "nor", "nand", "bnand", "plus",
		"＋", "−", "–", "×", "÷", "≤", "＝", "￤", "é", "\xff", "+\xff", "\xff+", "\ufeff+",
		levels, prefixes, strings.Repeat("+", 1<<16), strings.Repeat("and", 1<<14), "=="+strings.Repeat("=", 1<<16))
	for _, s := range list {
		if got := asked(s); got != (answers{}) {
			t.Errorf("%.40q: %v", s, got)
		}
	}
}

// 9.1, 9.2: every text of up to four bytes that signs of operators have, and others beside them.
func TestSigns(t *testing.T) {
	hold := holder(t)
	const parts = "=:/<>-|+*!~ \x00"
	var extend func(s string, left int)
	extend = func(s string, left int) {
		hold(s)
		if left == 0 {
			return
		}
		for at := range parts {
			extend(s+parts[at:at+1], left-1)
		}
	}
	extend("", 4)
}

// 9.1, 9.2: every text of up to two bytes, and of up to four small letters.
func TestShort(t *testing.T) {
	hold := holder(t)
	for x := range 256 {
		hold(string([]byte{byte(x)}))
		for y := range 256 {
			hold(string([]byte{byte(x), byte(y)}))
		}
	}
	const small = "abcdefghijklmnopqrstuvwxyz"
	var extend func(s string, left int)
	extend = func(s string, left int) {
		hold(s)
		if left == 0 {
			return
		}
		for at := range small {
			extend(s+small[at:at+1], left-1)
		}
	}
	extend("", 4)
}

// 9.1, 9.2: what is one byte away from an operator, put in, left out or another one, is one only if it stands in the lists itself.
func TestNear(t *testing.T) {
	hold := holder(t)
	all := append(strings.Fields(prefixes), strings.Fields(others)...)
	for s := range listed() {
		all = append(all, s)
	}
	for _, s := range all {
		hold(strings.ToUpper(s))
		hold(s + s)
		for at := range len(s) + 1 {
			for c := range 256 {
				hold(s[:at] + string([]byte{byte(c)}) + s[at:])
				if at < len(s) {
					hold(s[:at] + string([]byte{byte(c)}) + s[at+1:])
				}
			}
			if at < len(s) {
				hold(s[:at] + s[at+1:])
			}
			hold(s[:at])
			hold(s[at:])
		}
	}
}

// 9.2: of a, an operator, b, another one, c the first two or the last two group, as levels and sides have it: both never do, and none does of two that group not at all.
func TestGroups(t *testing.T) {
	for one := range listed() {
		for other := range listed() {
			first := Binary(one) >= Left(other)
			last := Binary(other) >= Right(one)
			x, y := Binary(one), Binary(other)
			wantFirst := x > y || x == y && Side(one) == 1
			wantLast := x < y || x == y && Side(one) == 2
			if first != wantFirst || last != wantLast {
				t.Errorf("a %s b %s c: %v, %v", one, other, first, last)
			}
		}
	}
}

// 9.2: a prefix may be an operand of every operator; no operator is one of a prefix.
func TestPrefixes(t *testing.T) {
	for _, p := range strings.Fields(prefixes) {
		for s := range listed() {
			if Prefix(p) < Left(s) || Prefix(p) < Right(s) || Binary(s) >= Prefix(p) {
				t.Errorf("%s beside %s", p, s)
			}
		}
	}
}

// The same texts have the same answers, whatever was asked ahead.
func TestAgain(t *testing.T) {
	all := append(strings.Fields(levels), "not", "bnot", "", "catch")
	first := map[string]answers{}
	for _, s := range all {
		first[s] = asked(s)
	}
	slices.Reverse(all)
	for _, s := range all {
		if got := asked(s); got != first[s] {
			t.Errorf("%q: %v, then %v", s, first[s], got)
		}
	}
}
