package parse

import (
	"maps"
	"math"
	"math/rand"
	"reflect"
	"runtime/debug"
	"slices"
	"strings"
	"testing"
	"unsafe"

	"galley/api"
	"galley/ops"
	"galley/scan"
	"galley/tree"
)

// tokens are those of s.
func tokens(t *testing.T, s string) []api.Token {
	t.Helper()
	l, e := scan.Scan(s)
	if e != api.OK {
		t.Fatal(s, e)
	}
	return l
}

// holdExpr holds which tree the expression of that level is that s begins with, and what is left behind it; "" is of none.
func holdExpr(t *testing.T, s string, level int, want, left string) {
	t.Helper()
	l := tokens(t, s)
	n, at, e := Expr(s, l, 0, len(l), level)
	if want == "" {
		if e != api.ErrForm || at != 0 || !reflect.DeepEqual(n, api.Node{}) {
			t.Errorf("%q: %s %d %d, want ErrForm", s, spell(n), at, e)
		}
		return
	}
	rest := ""
	for k := at; k < len(l); k++ {
		rest += l[k].Text
	}
	if e != api.OK || spell(n) != want || rest != left {
		t.Errorf("%q: %s, left %q, %d; want %s, left %q", s, spell(n), rest, e, want, left)
	}
}

// holdTable holds rows of a text, its tree, and what is left behind it.
func holdTable(t *testing.T, level int, rows [][3]string) {
	t.Helper()
	for _, x := range rows {
		holdExpr(t, x[0], level, x[1], x[2])
	}
}

// 13.1 Expr: by levels.
func TestLevels(t *testing.T) {
	holdTable(t, 0, [][3]string{
		{"a", "a", ""}, {"a + b * c", "Op+(a Op*(b c))", ""}, {"a * b + c", "Op+(Op*(a b) c)", ""}, {"(a + b) * c", "Op*(Op+(a b) c)", ""},
		{"a - b - c", "Op-(Op-(a b) c)", ""}, {"a = b = c", "Op=(a Op=(b c))", ""}, {"a = b ! c = d", "Op=(a Op!(b Op=(c d)))", ""},
		{"a ++ b -- c ++ d", "Op++(a Op--(b Op++(c d)))", ""}, {"a | b | c", "Op|(Op|(a b) c)", ""}, {"a :: b :: c | d", "Op::(a Op::(b Op|(c d)))", ""},
		{"a orelse b andalso c orelse d", "Oporelse(a Oporelse(Opandalso(b c) d))", ""}, {"a and b or c xor d", "Opxor(Opor(Opand(a b) c) d)", ""},
		{"a bsl b band c rem d", "Opbsl(a Oprem(Opband(b c) d))", ""}, {"a = b :: c", "Op::(Op=(a b) c)", ""}, {"a == b = c == d", "Op=(Op==(a b) Op==(c d))", ""},
		// What does not group at all ends ahead of the second one.
		{"a == b == c", "Op==(a b)", "==c"}, {"a < b =/= c + d", "Op<(a b)", "=/=c+d"}, {"(a == b) == c", "Op==(Op==(a b) c)", ""}, {"a == b ++ c == d", "Op==(a Op++(b c))", "==d"},
		// Prefixes.
		{"- a", "Un-(a)", ""}, {"- - a", "Un-(Un-(a))", ""}, {"not bnot + a", "Unnot(Unbnot(Un+(a)))", ""}, {"not a == b", "Op==(Unnot(a) b)", ""}, {"a - - b", "Op-(a Un-(b))", ""}, {"a * not b * c", "Op*(Op*(a Unnot(b)) c)", ""},
		{"- f(a)", "Un-(Call(f a))", ""}, {"- a:b", "Un-(Remote(a b))", ""}, {"-1", "Un-(1)", ""},
		// catch.
		{"catch a", "Uncatch(a)", ""}, {"catch a = b + c", "Uncatch(Op=(a Op+(b c)))", ""}, {"catch catch a", "Uncatch(Uncatch(a))", ""}, {"catch a, b", "Uncatch(a)", ",b"}, {"(catch a) + b", "Op+(Uncatch(a) b)", ""},
		{"a + catch b", "", ""}, {"a = catch b", "", ""}, {"- catch a", "", ""}, {"catch", "", ""},
		// What stands behind is left.
		{"a b", "a", "b"}, {"a <- b", "a", "<-b"}, {"a => b", "a", "=>b"}, {"a)", "a", ")"}, {"a. ", "a", "."}, {"a.b", "a", ".b"}, {"a -> b", "a", "->b"}, {"a when b", "a", "whenb"}, {"a not b", "a", "notb"}, {"a %c", "a", "%c"}, {"'+' 'and' b", "'+'", "'and'b"},
		// A sign without what must stand behind it.
		{"a +", "", ""}, {"a + )", "", ""}, {"a + %c\n b", "", ""}, {"a + b *", "", ""}, {"-", "", ""}, {"not", "", ""}, {"* a", "", ""}, {"a and", "", ""}, {"a == ==", "", ""},
		{"%c\n a", "", ""}, {"- %c\n a", "", ""}, {". ", "", ""}, {"", "", ""}, {"end", "", ""}, {"of", "", ""}, {")", "", ""}, {", a", "", ""}, {"%c", "", ""},
	})
	for level, want := range map[int][2]string{
		math.MinInt: {"Uncatch(Op::(a Op|(b Op=(c Op+(d Op*(Un-(e) f))))))", ""}, -1: {"Uncatch(Op::(a Op|(b Op=(c Op+(d Op*(Un-(e) f))))))", ""}, 0: {"Uncatch(Op::(a Op|(b Op=(c Op+(d Op*(Un-(e) f))))))", ""}, 1: {"", ""},
	} {
		holdExpr(t, "catch a :: b | c = d + -e * f", level, want[0], want[1])
	}
	for level, want := range map[int][2]string{
		0: {"Op::(Op|(Op=(Op+(Op*(Un-(a) b) c) d) e) f)", ""}, 1: {"Op::(Op|(Op=(Op+(Op*(Un-(a) b) c) d) e) f)", ""}, 2: {"Op|(Op=(Op+(Op*(Un-(a) b) c) d) e)", "::f"}, 3: {"Op=(Op+(Op*(Un-(a) b) c) d)", "|e::f"}, 4: {"Op+(Op*(Un-(a) b) c)", "=d|e::f"}, 8: {"Op+(Op*(Un-(a) b) c)", "=d|e::f"}, 9: {"Op*(Un-(a) b)", "+c=d|e::f"}, 10: {"Un-(a)", "*b+c=d|e::f"}, 11: {"Un-(a)", "*b+c=d|e::f"}, math.MaxInt: {"Un-(a)", "*b+c=d|e::f"},
	} {
		holdExpr(t, "-a * b + c = d | e :: f", level, want[0], want[1])
	}
	holdExpr(t, "a + b", 9, "a", "+b")
}

// 13.1 Expr: each two operators, one behind the other, as 9.2 says; where both could be, and where neither could.
func TestOperators(t *testing.T) {
	var all []string
	for _, l := range table() {
		all = append(all, l...)
	}
	for _, one := range all {
		for _, two := range all {
			s := "a " + one + " b " + two + " c"
			switch {
			case ops.Binary(two) >= ops.Right(one):
				holdExpr(t, s, 0, "Op"+one+"(a Op"+two+"(b c))", "")
			case ops.Binary(one) >= ops.Left(two):
				holdExpr(t, s, 0, "Op"+two+"(Op"+one+"(a b) c)", "")
			default:
				holdExpr(t, s, 0, "Op"+one+"(a b)", two+"c")
			}
		}
	}
}

// 13.2 Primary: values, ( ), and the containers.
func TestPrimaries(t *testing.T) {
	holdTable(t, 0, [][3]string{
		{"'a b'", "'a b'", ""}, {"X", "X", ""}, {"16#FF", "16#FF", ""}, {"1.5e3", "1.5e3", ""}, {`$\n`, `$\n`, ""}, {`"a b"`, `"a b"`, ""}, {"?X", "?X", ""}, {"??X", "??X", ""}, {`"a" "b"`, `"a"`, `"b"`},
		{"(a)", "a", ""}, {"((a))", "a", ""}, {"(catch a)", "Uncatch(a)", ""}, {"()", "", ""}, {"(a", "", ""}, {"(a, b)", "", ""}, {"(%c\n a)", "", ""}, {"(a %c\n)", "", ""}, {"(\na\n)", "a", ""},
		{"{}", "Tuple()", ""}, {"{a, catch b, {}}", "Tuple(a Uncatch(b) Tuple())", ""}, {"{a,}", "", ""}, {"{,a}", "", ""}, {"{a; b}", "", ""}, {"{a b}", "", ""}, {"{a", "", ""}, {"{a,", "", ""}, {"{", "", ""}, {"{a => b}", "", ""}, {"{a]", "", ""},
		{"[]", "List()", ""}, {"[a, b = c]", "List(a Op=(b c))", ""}, {"[a | b]", "List|(a b)", ""}, {"[a, b | c = d]", "List|(a b Op=(c d))", ""}, {"[| a]", "", ""}, {"[a |]", "", ""}, {"[a | b | c]", "", ""}, {"[a | b, c]", "", ""}, {"[a, | b]", "", ""}, {"[a :: b]", "", ""}, {"[catch a]", "", ""}, {"[(a | b)]", "List(Op|(a b))", ""}, {"[a,]", "", ""}, {"[a", "", ""}, {"[a}", "", ""},
		{"[a || b]", "Comp(a b)", ""}, {"[a = b || c <- d, e = f, <<g>> <= h]", "Comp(Op=(a b) Op<-(c d) Op=(e f) Op<=(Bin(g) h))", ""}, {"[a ||]", "", ""}, {"[|| a]", "", ""}, {"[a, b || c]", "", ""}, {"[a || b,]", "", ""}, {"[a || b <- c <- d]", "", ""}, {"[a || b | c]", "", ""}, {"[a || catch b]", "", ""}, {"[a | b || c]", "", ""}, {"[a || b || c]", "", ""}, {"[a || b <-]", "", ""},
		{"<<>>", "Bin()", ""}, {"<<a, X, 1, 1.5, $a, \"a\", ?M>>", "Bin(a X 1 1.5 $a \"a\" ?M)", ""}, {"<<(a + b), <<c>>, (catch d):8>>", "Bin(Op+(a b) Bin(c) Seg:8(Uncatch(d)))", ""},
		{"<<a:8, a:X, a:?M, a/b, a/b-c-d, a : 8 / b - c>>", "Bin(Seg:8(a) Seg:X(a) Seg:?M(a) Seg/b(a) Seg/b-c-d(a) Seg:8/b-c(a))", ""}, {"<<<<>>:8, <<>>/a>>", "Bin(Seg:8(Bin()) Seg/a(Bin()))", ""},
		{"<<a + b>>", "", ""}, {"<<- 1>>", "", ""}, {"<<f(a)>>", "", ""}, {"<<{}>>", "", ""}, {"<<a:>>", "", ""}, {"<<a:b>>", "", ""}, {"<<a:(b)>>", "", ""}, {"<<a:1.5>>", "", ""}, {"<<a/>>", "", ""}, {"<<a/X>>", "", ""}, {"<<a/b->>", "", ""}, {"<<a/b-1>>", "", ""}, {"<<a/b:8>>", "", ""}, {"<<a:8:8>>", "", ""}, {"<<a,>>", "", ""}, {"<<a", "", ""}, {"<<a %c\n:8>>", "", ""}, {"<<a: %c\n8>>", "", ""}, {"<<()>>", "", ""}, {"<<:8>>", "", ""}, {"<<m:f>>", "", ""},
		{"#{}", "Map()", ""}, {"#{a => b, c := d, e, f = g => h = i}", "Map(Op=>(a b) Op:=(c d) e Op=>(Op=(f g) Op=(h i)))", ""}, {"#{a :: b}", "Map(Op::(a b))", ""}, {"# { }", "Map()", ""}, {"#{catch a}", "", ""}, {"#{a => catch b}", "", ""}, {"#{a => b => c}", "", ""}, {"#{a =>}", "", ""}, {"#{=> a}", "", ""}, {"#{a,}", "", ""}, {"# %c\n {}", "", ""}, {"#", "", ""}, {"#(a)", "", ""},
		{"#r{}", "Recr()", ""}, {"#X{a}", "RecX(a)", ""}, {"#?M{a = b, catch c}", "Rec?M(Op=(a b) Uncatch(c))", ""}, {"#'r s'{}", "Rec'r s'()", ""}, {"#r", "", ""}, {"#r.f", "", ""}, {"#1{}", "", ""}, {"#end{}", "", ""}, {"#r{a => b}", "", ""}, {"#r{a,}", "", ""}, {"#r %c\n {}", "", ""},
	})
}

// 13.2 Primary: fun, case, if, receive, begin.
func TestWordPrimaries(t *testing.T) {
	holdTable(t, 0, [][3]string{
		{"fun f/1", "Reff/1()", ""}, {"fun m:f/1", "Refm:f/1()", ""}, {"fun M : ?F / A", "RefM:?F/A()", ""}, {"fun ?F/?A", "Ref?F/?A()", ""}, {"fun f / 1 + 2", "Op+(Reff/1() 2)", ""}, {"fun f/1(a)", "Reff/1()", "(a)"},
		{"fun f", "", ""}, {"fun f/", "", ""}, {"fun f/a", "", ""}, {"fun 1/1", "", ""}, {"fun m:/1", "", ""}, {"fun m:f:g/1", "", ""}, {"fun /1", "", ""}, {"fun end/1", "", ""}, {"fun f/1.5", "", ""}, {"fun", "", ""}, {"fun f %c\n /1", "", ""},
		{"fun() -> a end", "Fun(Clause(Args() Guard() Body(a)))", ""}, {"fun(X, catch Y) when a, b; c -> d, e end", "Fun(Clause(Args(X Uncatch(Y)) Guard(Body(a b) Body(c)) Body(d e)))", ""}, {"fun(a) -> b; (c) -> d end", "Fun(Clause(Args(a) Guard() Body(b)) Clause(Args(c) Guard() Body(d)))", ""},
		{"fun() -> a end()", "Fun(Clause(Args() Guard() Body(a)))", "()"}, {"(fun() -> a end)()", "Call(Fun(Clause(Args() Guard() Body(a))))", ""}, {"fun() end", "", ""}, {"fun() -> end", "", ""}, {"fun() -> a", "", ""}, {"fun() -> a; end", "", ""}, {"fun(a,) -> b end", "", ""}, {"fun() when -> a end", "", ""}, {"fun F() -> a end", "", ""}, {"fun() -> a; b -> c end", "", ""}, {"fun() when a; -> b end", "", ""}, {"fun() when a, -> b end", "", ""}, {"fun() when catch a -> b end", "", ""}, {"fun %c\n () -> a end", "", ""}, {"fun() %c\n -> a end", "", ""},
		{"case a of b -> c end", "Case(a Clause(Args(b) Guard() Body(c)))", ""}, {"case catch a of b = c when d; e -> f, g; h -> i end", "Case(Uncatch(a) Clause(Args(Op=(b c)) Guard(Body(d) Body(e)) Body(f g)) Clause(Args(h) Guard() Body(i)))", ""},
		{"case a of end", "", ""}, {"case of b -> c end", "", ""}, {"case a b -> c end", "", ""}, {"case a of b -> c; end", "", ""}, {"case a of b, c -> d end", "", ""}, {"case a of catch b -> c end", "", ""}, {"case a, b of c -> d end", "", ""}, {"case a of b end", "", ""}, {"case a of b -> c", "", ""}, {"case a of b when -> c end", "", ""}, {"case a of b -> c,end", "", ""},
		{"if a -> b end", "If(Clause(Args() Guard(Body(a)) Body(b)))", ""}, {"if a, b; c -> d; e -> f end", "If(Clause(Args() Guard(Body(a b) Body(c)) Body(d)) Clause(Args() Guard(Body(e)) Body(f)))", ""}, {"if end", "", ""}, {"if -> a end", "", ""}, {"if when a -> b end", "", ""}, {"if a end", "", ""}, {"if a -> b; end", "", ""}, {"if catch a -> b end", "", ""},
		{"receive a -> b end", "Receive(Clause(Args(a) Guard() Body(b)))", ""}, {"receive a when b -> c; d -> e after f = g -> h, i end", "Receiveafter(Clause(Args(a) Guard(Body(b)) Body(c)) Clause(Args(d) Guard() Body(e)) Clause(Args(Op=(f g)) Guard() Body(h i)))", ""}, {"receive after a -> b end", "Receiveafter(Clause(Args(a) Guard() Body(b)))", ""},
		{"receive end", "", ""}, {"receive %c\n end", "", ""}, {"receive after a -> b; c -> d end", "", ""}, {"receive after a when b -> c end", "", ""}, {"receive a -> b; after c -> d end", "", ""}, {"receive a -> b after end", "", ""}, {"receive a -> b after c end", "", ""}, {"receive after catch a -> b end", "", ""}, {"receive after a -> b after c -> d end", "", ""}, {"receive", "", ""},
		{"begin a end", "Begin(Body(a))", ""}, {"begin a, catch b end", "Begin(Body(a Uncatch(b)))", ""}, {"begin end", "", ""}, {"begin a, end", "", ""}, {"begin a; b end", "", ""}, {"begin a", "", ""}, {"begin %c\n end", "", ""}, {"begin a end:b", "Begin(Body(a))", ":b"},
	})
}

// 13.2 What follows, and behind what.
func TestFollows(t *testing.T) {
	holdTable(t, 0, [][3]string{
		{"f()", "Call(f)", ""}, {"f (a, catch b)(c)", "Call(Call(f a Uncatch(b)) c)", ""}, {"f(a,)", "", ""}, {"f(", "", ""}, {"f(a", "", ""}, {"f(a => b)", "", ""}, {"X(a)", "Call(X a)", ""}, {"?M(a)", "Call(?M a)", ""}, {"'f g'(a)", "Call('f g' a)", ""},
		{"X#{a => b, c := d, e}", "MapUp(X Op=>(a b) Op:=(c d) e)", ""}, {"X#{}#{}", "MapUp(MapUp(X))", ""}, {"#{}#{a => b}", "MapUp(Map() Op=>(a b))", ""}, {"X#", "", ""}, {"X#{", "", ""}, {"X#{catch a}", "", ""},
		{"X#r{a = b, catch c}", "RecUpr(X Op=(a b) Uncatch(c))", ""}, {"#r{}#R{}", "RecUpR(Recr())", ""}, {"X#?M{}", "RecUp?M(X)", ""}, {"X#r", "", ""}, {"X#1{}", "", ""}, {"X#r{a => b}", "", ""},
		{"X#r.f", "Fieldr.f(X)", ""}, {"X # r .f", "Fieldr.f(X)", ""}, {"X#?M.'f g'#s.g", "Fields.g(Field?M.'f g'(X))", ""}, {"X#r.F", "", ""}, {"X#r.1", "", ""}, {"X#r.end", "", ""}, {"X#r. ", "", ""}, {"X#r.?f", "", ""}, {"X#r.f(a)", "Call(Fieldr.f(X) a)", ""},
		{"m:f", "Remote(m f)", ""}, {"m:f(a)", "Call(Remote(m f) a)", ""}, {"M:?F()", "Call(Remote(M ?F))", ""}, {"m:(f = g)(a)", "Call(Remote(m Op=(f g)) a)", ""}, {"(f(a)):b", "Remote(Call(f a) b)", ""}, {"(1):b", "Remote(1 b)", ""}, {"(a:b):c", "Remote(Remote(a b) c)", ""}, {"(catch a):(catch b)", "Remote(Uncatch(a) Uncatch(b))", ""},
		{"a:b:c", "Remote(a b)", ":c"}, {"f(a):b", "Call(f a)", ":b"}, {"X#r.f:b", "Fieldr.f(X)", ":b"}, {"#{}:b", "Map()", ":b"}, {"m:1", "", ""}, {"m:", "", ""}, {"m:{}", "", ""}, {"m:-a", "", ""}, {"m:()", "", ""}, {"m:end", "", ""}, {"m: %c\n f", "", ""}, {"m:f:(g)", "Remote(m f)", ":(g)"},
		// Behind others nothing.
		{"1(a)", "1", "(a)"}, {"1:a", "1", ":a"}, {"1.5#{}", "1.5", "#{}"}, {"$a(b)", "$a", "(b)"}, {`"a"(b)`, `"a"`, "(b)"}, {`"a":b`, `"a"`, ":b"}, {"{a}#r.f", "Tuple(a)", "#r.f"}, {"{a}(b)", "Tuple(a)", "(b)"}, {"[a](b)", "List(a)", "(b)"}, {"[a || b](c)", "Comp(a b)", "(c)"}, {"<<a>>(b)", "Bin(a)", "(b)"}, {"begin a end(b)", "Begin(Body(a))", "(b)"},
		{"({a})#r.f", "Fieldr.f(Tuple(a))", ""}, {"(1)(a)", "Call(1 a)", ""}, {`("a")#{}`, `MapUp("a")`, ""}, {"([a])(b)(c)", "Call(Call(List(a) b) c)", ""}, {"(a + b)(c):d", "Call(Op+(a b) c)", ":d"}, {"(- a)#r{}", "RecUpr(Un-(a))", ""},
	})
}

// The flags of containers and clauses, and the comments where items begin and where containers end.
func TestNotes(t *testing.T) {
	holdTable(t, 0, [][3]string{
		{"{\na}", "Tuple break(a)", ""}, {"{ \n\n}", "Tuple break()", ""}, {"{a\n,\nb\n}", "Tuple(a b)", ""}, {"{%c\na}", `Tuple(Lita note"%c"())`, ""}, {"{\n%c\na}", `Tuple break(Lita note"%c"())`, ""}, {"{%c\n}", `Tuple() tail"%c"`, ""}, {"{\n%c\n\n%d\n}", `Tuple break() tail"%c" tail"%d"`, ""}, {"{a %c\n\n%d\n}", `Tuple(a) tail"%c" tail"%d"`, ""},
		{"{a, %b\n%c\n d + e %f\n}", `Tuple(a Op+ note"%b" note"%c"(d e)) tail"%f"`, ""}, {"{a %c\n, b}", "", ""}, {"{a, %c\n}", "", ""}, {"{a + %c\n b}", "", ""}, {"{a, %c\n (b)}", `Tuple(a Litb note"%c"())`, ""}, {"{a, (%c\n b)}", "", ""}, {"{a,\n\nb}", "Tuple(a b)", ""}, {"{\n\na}", "Tuple break(a)", ""},
		{"[\na | b]", "List| break(a b)", ""}, {"[a | b\n]", "List|(a b)", ""}, {"[%c\na | b %d\n]", `List|(Lita note"%c"() b) tail"%d"`, ""}, {"[a %c\n | b]", "", ""}, {"[a | %c\n b]", "", ""}, {"[%c\n]", `List() tail"%c"`, ""}, {"[a, %c\n b]", `List(a Litb note"%c"())`, ""},
		{"[\na || b]", "Comp break(a b)", ""}, {"[a ||\n b]", "Comp(a b)", ""}, {"[%c\n a || b]", "", ""}, {"[a %c\n || b]", "", ""}, {"[a || %c\n b]", "", ""}, {"[a || b %c\n]", "", ""}, {"[a || b, %c\n c]", "", ""}, {"[a || b <- %c\n c]", "", ""},
		{"<<\na>>", "Bin break(a)", ""}, {"<<a, %c\n b:8 %d\n>>", `Bin(a Seg:8 note"%c"(b)) tail"%d"`, ""}, {"<<%c\n>>", `Bin() tail"%c"`, ""}, {"<<(%c\n a)>>", "", ""},
		{"#{\na}", "Map break(a)", ""}, {"#\n{a}", "Map(a)", ""}, {"#{%c\n a => b %d\n}", `Map(Op=> note"%c"(a b)) tail"%d"`, ""}, {"#{a %c\n => b}", "", ""}, {"#{a => %c\n b}", "", ""}, {"X#{\n%c\n}", `MapUp break(X) tail"%c"`, ""}, {"X#\n{%c\na}", `MapUp(X Lita note"%c"())`, ""},
		{"#r{\na}", "Recr break(a)", ""}, {"#r{%c\na = b}", `Recr(Op= note"%c"(a b))`, ""}, {"X#r{\na %c\n}", `RecUpr break(X a) tail"%c"`, ""}, {"X#r\n{}", "RecUpr(X)", ""},
		{"f(\n)", "Call break(f)", ""}, {"f\n(a)", "Call(f a)", ""}, {"f(%c\n)", `Call(f) tail"%c"`, ""}, {"f(a, %c\n b)(\nc %d\n)", `Call break(Call(f a Litb note"%c"()) c) tail"%d"`, ""}, {"{%c\n f(a)}", `Tuple(Call note"%c"(f a))`, ""},
		{"fun(\na %c\n) ->\n b %d\n end", `Fun(Clause break(Args break(a) tail"%c" Guard() Body(b))) tail"%d"`, ""}, {"fun(%c\na) -> %d\n b; %e\n %f\n () ->\n\n c end", `Fun(Clause(Args(Lita note"%c"()) Guard() Body(Litb note"%d"())) Clause break note"%e" note"%f"(Args() Guard() Body(c)))`, ""}, {"fun(a) when %c\n b -> c end", "", ""}, {"fun() -> a %c\n; () -> b end", "", ""}, {"fun(a)\n when\n b -> c\n end", "Fun(Clause(Args(a) Guard(Body(b)) Body(c)))", ""},
		{"case a of\n\n %c\n b ->\n c;\n\n %d\n e -> f\n %g\n %h\n end", `Case(a Clause break note"%c"(Args(b) Guard() Body(c)) Clause note"%d"(Args(e) Guard() Body(f))) tail"%g" tail"%h"`, ""}, {"case %c\n a of b -> c end", "", ""}, {"case a %c\n of b -> c end", "", ""}, {"case a of b %c\n -> d end", "", ""}, {"case a of b when c; %d\n e -> f end", "", ""}, {"case a of b when c, %d\n e -> f end", "", ""},
		{"if %c\n a -> b; %d\n e ->\n f %g\n end", `If(Clause note"%c"(Args() Guard(Body(a)) Body(b)) Clause break note"%d"(Args() Guard(Body(e)) Body(f))) tail"%g"`, ""}, {"if a; %c\n b -> d end", "", ""},
		{"receive %c\n a -> b %d\n after c -> e %f\n end", `Receiveafter(Clause note"%c"(Args(a) Guard() Body(b)) Clause note"%d"(Args(c) Guard() Body(e))) tail"%f"`, ""}, {"receive %a\n after b ->\n %c\n d end", `Receiveafter(Clause break note"%a"(Args(b) Guard() Body(Litd note"%c"())))`, ""}, {"receive a -> b %c\n end", `Receive(Clause(Args(a) Guard() Body(b))) tail"%c"`, ""}, {"receive after %c\n a -> b end", "", ""}, {"receive a -> b after c %d\n -> e end", "", ""},
		{"begin %a\n b, %c\n d %e\n end", `Begin(Body(Litb note"%a"() Litd note"%c"())) tail"%e"`, ""}, {"begin a %c\n, b end", "", ""}, {"begin\n\na,\n\nb,\nc,\n \t\n%d\n\ne, %f\n\ng end", `Begin(Body(a Litb blank() c Lite blank note"%d"() Litg note"%f"()))`, ""}, {"begin a\n\n, b end", "Begin(Body(a b))", ""}, {"begin\n\n%c\n\na end", `Begin(Body(Lita note"%c"()))`, ""},
		{"f(fun() ->\n\n a,\n\n b end)", "Call(f Fun(Clause break(Args() Guard() Body(a Litb blank()))))", ""},
	})
}

// A comment where no item begins is wrong, if what stands behind it goes on with what was read; else it is none of that.
func TestComments(t *testing.T) {
	for _, x := range []struct {
		name string
		face face
		rows [][3]string
	}{
		{"Expr", exprFace(0), [][3]string{
			{"f %x\n = \"s\"", "", ""}, {"a %c\n + b", "", ""}, {"a %c\n %d\n + b", "", ""}, {"a + b %c\n * c", "", ""}, {"a * b %c\n + c", "", ""}, {"a = b %c\n = c", "", ""}, {"a == b %c\n = c", "", ""}, {"catch a %c\n :: b", "", ""}, {"- a %c\n - b", "", ""}, {"a %c\n orelse b", "", ""}, {"a %c\n +", "", ""},
			{"f %c\n (a)", "", ""}, {"f %c\n (", "", ""}, {"f(a) %c\n (b)", "", ""}, {"(1) %c\n (b)", "", ""}, {"a:b %c\n (c)", "", ""}, {"a %c\n : b", "", ""}, {"a %c\n : (b)", "", ""}, {"(f(a)) %c\n : b", "", ""}, {"X %c\n #{a => 1}", "", ""}, {"X %c\n #r{}", "", ""}, {"X %c\n #r.f", "", ""}, {"X#r.f %c\n #{}", "", ""}, {"X %c\n #", "", ""},
			{"%c\n a", "", ""}, {"- %c\n a", "", ""}, {"- %c\n - a", "", ""}, {"catch %c\n a", "", ""}, {"catch %c\n catch a", "", ""}, {"a + %c\n b", "", ""}, {"a + %c\n - b", "", ""}, {"%c\n (a)", "", ""}, {"fun %c\n f/1", "", ""}, {"fun %c\n () -> a end", "", ""}, {"fun f %c\n / 1", "", ""}, {"# %c\n r{}", "", ""}, {"receive a -> b %c\n after %d\n c -> d end", "", ""},
			{"a %c", "a", "%c"}, {"a %c\n %d", "a", "%c%d"}, {"a %c\n )", "a", "%c)"}, {"a %c\n b", "a", "%cb"}, {"a %c\n , b", "a", "%c,b"}, {"a %c\n ; b", "a", "%c;b"}, {"a %c\n -> b", "a", "%c->b"}, {"a %c\n => b", "a", "%c=>b"}, {"a %c\n <- b", "a", "%c<-b"}, {"a %c\n || b", "a", "%c||b"}, {"a %c\n not b", "a", "%cnotb"}, {"a %c\n {b}", "a", "%c{b}"}, {"a %c\n . ", "a", "%c."}, {"a %c\n when b", "a", "%cwhenb"},
			{"a == b %c\n == c", "Op==(a b)", "%c==c"}, {"a = b < c %c\n < d", "Op=(a Op<(b c))", "%c<d"}, {"f(a) %c\n : b", "Call(f a)", "%c:b"}, {"a:b %c\n : c", "Remote(a b)", "%c:c"}, {"1 %c\n (a)", "1", "%c(a)"}, {"1 %c\n #{}", "1", "%c#{}"}, {"$a %c\n : b", "$a", "%c:b"}, {"{a} %c\n #r.f", "Tuple(a)", "%c#r.f"}, {"fun f/1 %c\n (a)", "Reff/1()", "%c(a)"}, {"begin a end %c\n : b", "Begin(Body(a))", "%c:b"},
		}},
		{"Expr at 9", exprFace(9), [][3]string{{"a %c\n + b", "a", "%c+b"}, {"a %c\n * b", "", ""}, {"a * b %c\n + c", "Op*(a b)", "%c+c"}, {"a %c\n (b)", "", ""}}},
		{"Expr at 11", exprFace(11), [][3]string{{"a %c\n + b", "a", "%c+b"}, {"a %c\n * b", "a", "%c*b"}, {"a %c\n : b", "", ""}}},
		{"Body", bodyFace(), [][3]string{
			{"a %c\n , b", "", ""}, {"a, b %c\n , c", "", ""}, {"%a\n a %c\n , %b\n b", "", ""}, {"a %c\n ,", "", ""}, {"a, b %c\n + c", "", ""}, {"a, f %c\n (c)", "", ""}, {"a, %c\n", "", ""},
			{"a, b %c\n ; c", "Body(a b)", "%c;c"}, {"a, b %c\n c", "Body(a b)", "%cc"}, {"a == b %c\n == c, d", "Body(Op==(a b))", "%c==c,d"}, {"%c\n a, %d\n b %e\n %f\n end", `Body(Lita note"%c"() Litb note"%d"())`, "%e%fend"},
		}},
		{"Clauses", clausesFace(), [][3]string{
			{"a -> b %c\n ; c -> d", "", ""}, {"a -> b; c -> d %c\n ; e -> f", "", ""}, {"a -> b %c\n ;", "", ""}, {"a -> b %c\n , c", "", ""}, {"a -> b %c\n + c", "", ""}, {"a -> b %c\n (c)", "", ""}, {"a %c\n -> b", "", ""}, {"a %c\n when b -> c", "", ""}, {"a when b %c\n ; c -> d", "", ""}, {"a when b %c\n , c -> d", "", ""}, {"a when %c\n b -> c", "", ""},
			{"a -> b %c\n end", "Clause(Args(a) Guard() Body(b))", "%cend"}, {"a -> b %c\n after", "Clause(Args(a) Guard() Body(b))", "%cafter"}, {"a -> b; %c\n d -> e %f\n -> g", `Clause(Args(a) Guard() Body(b)) Clause note"%c"(Args(d) Guard() Body(e))`, "%f->g"},
		}},
	} {
		for _, row := range x.rows {
			l := tokens(t, row[0])
			list, at, e := x.face.call(row[0], l, 0, len(l))
			var trees []string
			for _, n := range list {
				trees = append(trees, spell(n))
			}
			left := ""
			for k := at; k < len(l) && e == api.OK; k++ {
				left += l[k].Text
			}
			if got := strings.Join(trees, " "); got != row[1] || left != row[2] || (e == api.OK) != (row[1] != "") || e != api.OK && (e != api.ErrForm || at != 0) {
				t.Errorf("%s of %q: %s, left %q, %d %d; want %s, left %q", x.name, row[0], got, left, at, e, row[1], row[2])
			}
		}
	}
}

// 13.3 Body, 13.4 Clauses, and Expr: from one place up to another one.
func TestPlaces(t *testing.T) {
	s := "%x\n a, b ; %y\n c when d; e ->\n f,\n\n g; h -> i . "
	l := tokens(t, s)
	at := func(text string) int {
		return slices.IndexFunc(l, func(t api.Token) bool { return t.Text == text })
	}
	for _, x := range []struct {
		from, to int
		want     string
		end      int
	}{
		{0, len(l), `Body(Lita note"%x"() b)`, at("b") + 1}, {1, len(l), "Body(a b)", at("b") + 1}, {0, 2, `Body(Lita note"%x"())`, 2}, {0, 3, "", 0}, {0, 1, "", 0}, {2, len(l), "", 0},
		{at("b"), len(l), "Body(b)", at("b") + 1}, {at("%y"), len(l), `Body(Litc note"%y"())`, at("c") + 1}, {at("f"), len(l), "Body(f Litg blank())", at("g") + 1}, {at("g"), len(l), "Body(g)", at("g") + 1},
		{len(l) - 1, len(l), "", 0}, {len(l), len(l), "", 0}, {0, 0, "", 0}, {1, 0, "", 0}, {-1, len(l), "", 0}, {0, len(l) + 1, "", 0}, {math.MinInt, math.MaxInt, "", 0}, {math.MaxInt, math.MaxInt, "", 0}, {math.MinInt, math.MinInt, "", 0}, {len(l) + 1, len(l) + 1, "", 0},
	} {
		n, end, e := Body(s, l, x.from, x.to)
		if x.want == "" && (e != api.ErrForm || !reflect.DeepEqual(n, api.Node{})) || x.want != "" && (e != api.OK || spell(n) != x.want) || end != x.end {
			t.Error(x, spell(n), end, e)
		}
	}
	for _, x := range []struct {
		from, to int
		want     string
		end      int
	}{
		{at("%y"), len(l), `.(Clause break note"%y"(Args(c) Guard(Body(d) Body(e)) Body(f Litg blank())) Clause(Args(h) Guard() Body(i)))`, at("i") + 1},
		{at("c"), at("g"), "", 0}, {at("c"), at("f") + 1, ".(Clause break(Args(c) Guard(Body(d) Body(e)) Body(f)))", at("f") + 1}, {at("e"), at("h") - 1, ".(Clause break(Args(e) Guard() Body(f Litg blank())))", at("g") + 1}, {at("e"), at("h"), "", 0}, {at("e"), at("h") + 2, "", 0},
		{0, len(l), "", 0}, {at("b"), len(l), "", 0}, {len(l), len(l), "", 0}, {at("h"), at("h"), "", 0}, {at("h"), at("h") - 1, "", 0}, {-1, len(l), "", 0}, {at("h"), len(l) + 1, "", 0}, {math.MinInt, math.MaxInt, "", 0}, {math.MaxInt, math.MinInt, "", 0},
	} {
		list, end, e := Clauses(s, l, x.from, x.to)
		if x.want == "" && (e != api.ErrForm || len(list) != 0) || x.want != "" && (e != api.OK || spell(api.Node{L: list})+"" != "."+x.want[1:]) || end != x.end {
			t.Error(x, spell(api.Node{L: list}), end, e)
		}
	}
	for _, x := range []struct{ from, to, end int }{{1, len(l), 2}, {1, 2, 2}, {3, 4, 4}, {0, len(l), 0}, {0, 1, 0}, {2, 3, 0}, {1, 1, 0}, {2, 1, 0}, {-1, 2, 0}, {1, len(l) + 1, 0}, {math.MinInt, math.MaxInt, 0}, {math.MaxInt, math.MaxInt, 0}, {len(l), len(l), 0}} {
		n, end, e := Expr(s, l, x.from, x.to, 0)
		if end != x.end || (e == api.OK) != (x.end > 0) || e != api.OK && (e != api.ErrForm || !reflect.DeepEqual(n, api.Node{})) || e == api.OK && spell(n) != l[x.from].Text {
			t.Error(x, spell(n), end, e)
		}
	}
	for _, l := range [][]api.Token{nil, {}} {
		if _, at, e := Expr("", l, 0, 0, 0); at != 0 || e != api.ErrForm {
			t.Error(at, e)
		}
	}
}

// face is one of the calls, as what answers a list of nodes, beside the reading of the same.
type face struct {
	call func(s string, l []api.Token, from, to int) ([]api.Node, int, int)
	anew func(g *reading) []part
}

// single is a call that answers one node, which is none where it is zero beside an error.
func single(call func(s string, l []api.Token, from, to int) (api.Node, int, int), anew func(g *reading) []part) face {
	return face{
		func(s string, l []api.Token, from, to int) ([]api.Node, int, int) {
			n, at, e := call(s, l, from, to)
			if e != api.OK && reflect.DeepEqual(n, api.Node{}) {
				return nil, at, e
			}
			return []api.Node{n}, at, e
		},
		func(g *reading) (list []part) {
			for _, x := range anew(g) {
				list = append(list, part{n: api.Node{L: []api.Node{x.n}}, end: x.end})
			}
			return list
		},
	}
}

func exprFace(level int) face {
	return single(func(s string, l []api.Token, from, to int) (api.Node, int, int) {
		return Expr(s, l, from, to, level)
	}, func(g *reading) []part { return g.level(level)(0) })
}

func bodyFace() face {
	return single(Body, func(g *reading) []part { return g.body(0) })
}

func clausesFace() face {
	return face{Clauses, func(g *reading) []part { return g.clauses(0) }}
}

// known is what is known of tokens that something may begin with: what they are all of (at most one), and what may come next.
type known struct {
	full   []string
	wanted map[api.Token]bool
}

func know(f face, s string, l []api.Token) known {
	g := readAnew(s, l)
	k := known{wanted: g.wanted}
	for _, x := range f.anew(g) {
		if x.end == len(l) {
			k.full = append(k.full, spell(x.n))
		}
	}
	return k
}

// goesOn tells whether t may come next.
func (k known) goesOn(t api.Token) bool {
	return k.wanted[t] || k.wanted[api.Token{Kind: t.Kind}]
}

// holdRead holds what the call answers of the tokens l against k, what is known of the most of them that something may begin with: it is there, if these are all of something, and else wrong.
func holdRead(t *testing.T, f face, s string, l []api.Token, most int, k known) {
	t.Helper()
	list, at, e := f.call(s, l, 0, len(l))
	switch {
	case len(k.full) > 1:
		t.Fatalf("%q: two derivations: %q", s, k.full)
	case len(k.full) == 0 || most == 0:
		if len(list) != 0 || at != 0 || e != api.ErrForm {
			t.Fatalf("%q: %s %d %d, want ErrForm", s, spell(api.Node{L: list}), at, e)
		}
	case e != api.OK || at != most || spell(api.Node{L: list}) != k.full[0]:
		t.Fatalf("%q:\n%s %d %d\n%s %d", s, spell(api.Node{L: list}), at, e, k.full[0], most)
	}
}

// holdBehind holds what the call answers where behind the tokens l stand comments with which no item begins, and x: it is wrong, if x may come next behind l; else the comments, and x, are none of what is read.
func holdBehind(t *testing.T, f face, l []api.Token, x api.Token, k known, blanks []string) {
	t.Helper()
	comment := api.Token{Kind: api.TComment, Text: "%z"}
	if k.goesOn(comment) || x.Kind == api.TComment {
		return
	}
	if k.goesOn(x) {
		k = known{}
	}
	for _, between := range [][]api.Token{{comment}, {comment, comment}} {
		s, ll := laid(append(slices.Concat(l, between), x), blanks)
		holdRead(t, f, s, ll, len(l), k)
	}
}

// laid are the tokens of those kinds and texts, one behind the other in a text with those blanks ahead of each.
func laid(l []api.Token, blanks []string) (string, []api.Token) {
	var b strings.Builder
	l = slices.Clone(l)
	for k := range l {
		if k > 0 && l[k-1].Kind == api.TComment {
			b.WriteString("\n")
		}
		b.WriteString(blanks[k%len(blanks)])
		l[k].At = b.Len()
		b.WriteString(l[k].Text)
	}
	return b.String(), l
}

// some are tokens of all kinds, among them all signs and words.
func some() []api.Token {
	l := []api.Token{
		{Kind: api.TAtom, Text: "a"}, {Kind: api.TAtom, Text: "'and'"}, {Kind: api.TVar, Text: "X"}, {Kind: api.TInt, Text: "1"},
		{Kind: api.TFloat, Text: "1.5"}, {Kind: api.TChar, Text: "$a"}, {Kind: api.TString, Text: `"a"`}, {Kind: api.TMacro, Text: "?M"},
		{Kind: api.TDot, Text: "."}, {Kind: api.TComment, Text: "%c"},
	}
	for _, x := range strings.Fields("=:= =/= << >> -> <- <= => := :: == /= =< >= || ++ -- ( ) { } [ ] , ; : = | ! # + - * / < > .") {
		l = append(l, api.Token{Kind: api.TSign, Text: x})
	}
	for _, x := range strings.Fields("after and andalso band begin bnot bor bsl bsr bxor case catch div end fun if not of or orelse receive rem when xor") {
		l = append(l, api.Token{Kind: api.TWord, Text: x})
	}
	return l
}

// few are some of them, one of each sort that the grammar tells apart, or nearly.
func few() []api.Token {
	return slices.DeleteFunc(some(), func(t api.Token) bool {
		switch t.Kind {
		case api.TFloat, api.TChar, api.TString, api.TVar, api.TDot:
			return true
		}
		return slices.Contains(strings.Fields("'and' =:= =/= /= =< >= < > := <= ! -- * + and band bnot bor bsl bsr bxor or rem xor div andalso"), t.Text)
	})
}

// holdAll holds all lists of tokens of those that are as long as most at most, and but for their last token may begin something.
func holdAll(t *testing.T, f face, of []api.Token, most int) {
	var hold func(l []api.Token)
	blanks := []string{" "}
	hold = func(l []api.Token) {
		s, ll := laid(l, blanks)
		k := know(f, s, ll)
		for _, x := range of {
			holdBehind(t, f, l, x, k, blanks)
			longer := append(slices.Clip(l), x)
			if !k.goesOn(x) {
				s, ll := laid(longer, blanks)
				holdRead(t, f, s, ll, len(l), k)
			} else if len(longer) <= most {
				s, ll := laid(longer, blanks)
				holdRead(t, f, s, ll, len(ll), know(f, s, ll))
				hold(longer)
			}
		}
	}
	hold(nil)
}

// 13.1 to 13.5: the calls answer what the chapter's words, read anew, have as the one derivation of the most tokens that an expression, a body, or clauses may begin with; and it is the only one.
func TestAll(t *testing.T) {
	for _, f := range []face{exprFace(0), bodyFace(), clausesFace()} {
		holdAll(t, f, few(), 3)
		holdAll(t, f, some(), 2)
	}
	for level := -1; level <= 12; level++ {
		holdAll(t, exprFace(level), some(), 2)
	}
}

// sorts are the tokens that may come next, in groups: operators between two, what is a value alone, and each other one.
func (k known) sorts(of []api.Token) [][]api.Token {
	groups := map[string][]api.Token{}
	for _, x := range of {
		if !k.goesOn(x) {
			continue
		}
		name := x.Text
		switch {
		case x.Kind < api.TWord:
			name = "value"
		case slices.ContainsFunc(slices.Collect(maps.Values(table())), func(l []string) bool { return slices.Contains(l, x.Text) }):
			name = "operator"
		}
		groups[name] = append(groups[name], x)
	}
	var list [][]api.Token
	for _, name := range slices.Sorted(maps.Keys(groups)) {
		list = append(list, groups[name])
	}
	return list
}

// chosen is one of the tokens that may come next; one that brings the end nearer, if near.
func (k known) chosen(r *rand.Rand, of []api.Token, near bool) api.Token {
	list := k.sorts(of)
	group := list[r.Intn(len(list))]
	if near {
		for _, text := range []string{"/", "(", "{", "a", "?M", "->", "of", ")", "}", "]", ">>", "end"} {
			for _, l := range list {
				if slices.ContainsFunc(l, func(x api.Token) bool { return x.Text == text }) {
					group = l
				}
			}
		}
	}
	return group[r.Intn(len(group))]
}

// holdWalk holds a list of tokens that goes on by chance, always so that it may begin something, and at each token what goes on otherwise.
func holdWalk(t *testing.T, r *rand.Rand, f face, most int) (ended bool) {
	of := some()
	blanks := make([]string, 11)
	for k := range blanks {
		blanks[k] = []string{"", " ", "\n", "\n ", "\n\n", " \n\t\n\n"}[r.Intn(6)]
	}
	var l []api.Token
	for len(l) < 2*most {
		s, ll := laid(l, blanks)
		k := know(f, s, ll)
		holdRead(t, f, s, ll, len(ll), k)
		for range 5 {
			holdBehind(t, f, l, of[r.Intn(len(of))], k, blanks)
			holdBehind(t, f, l, k.chosen(r, of, false), k, blanks)
			if x := of[r.Intn(len(of))]; !k.goesOn(x) {
				s, ll := laid(append(slices.Clip(l), x), blanks)
				holdRead(t, f, s, ll, len(l), k)
			}
		}
		if len(k.full) > 0 && len(l) >= most {
			return true
		}
		l = append(l, k.chosen(r, of, len(l) >= most))
	}
	return false
}

// 13.1 to 13.5, of longer ones, with newlines and comments wherever they may be.
func TestWalks(t *testing.T) {
	r := rand.New(rand.NewSource(13))
	ended := 0
	faces := []face{exprFace(0), bodyFace(), clausesFace(), exprFace(0), exprFace(3)}
	for k := range 500 {
		if holdWalk(t, r, faces[k%len(faces)], 5+r.Intn(20)) {
			ended++
		}
	}
	if ended < 250 {
		t.Error(ended)
	}
}

// long is a text that has nearly all kinds of nodes, comments and blank lines.
func long() string {
	return "f(\n%a\n X, [a | b %b\n], [\nc || d <- e, f]), catch - #{%c\n a => 1, b},\n\n %d\n <<a:8/b-c, <<>> %e\n>>, fun m:f/1, (m):(f)(\n), #r{\n%f\n}#r{a = 1}#r.f#{},\n" +
		"fun(%g\n a) when b, c; d ->\n e; %h\n () -> f %i\n end, case a of %j\n b -> c end, if a -> b %k\n end,\n\n receive %l\n a -> b %m\n after c ->\n d %n\n end, begin %o\n a end"
}

// Only the tokens from one up to another one are read: what stands ahead and behind changes nothing, and of itself is not asked.
func TestInside(t *testing.T) {
	part := "%x\n" + long() + "; %y\n{\n%z\n}"
	own := tokens(t, part)
	for _, around := range [][2]string{{"", ""}, {"f(a, %a\n\n", " %b\n)"}, {"a +\n\n", "+ b"}, {"{", "(a)"}, {"%a\n", ", c"}, {"end\n", "; d"}, {"", " -> e"}} {
		s := around[0] + part + around[1]
		l := tokens(t, s)
		from := len(tokens(t, around[0]+"a")) - 1
		to := from + len(own)
		n, at, e := Body(s, l, from, to)
		want, end, _ := Body(part, own, 0, len(own))
		if e != api.OK || !tree.Same(n, want) || at != from+end {
			t.Errorf("%q %s %d %d", s, spell(n), at, e)
		}
		for to := from; to < at; to++ {
			cut, end, e := Body(s, l, from, to)
			want, short, wrong := Body(part, own[:to-from], 0, to-from)
			if e != wrong || !tree.Same(cut, want) || e == api.OK && end != from+short {
				t.Errorf("%q %d: %s %d %d", s, to, spell(cut), end, e)
			}
		}
	}
}

// Tokens are what their kinds say: no atom or text is a sign or a word, whatever it says. And lists that are none of a text's have no answer that would not end.
func TestKinds(t *testing.T) {
	for kind := -1; kind <= 13; kind++ {
		for _, x := range some() {
			one := api.Token{Kind: kind, Text: x.Text}
			list := []api.Token{{Kind: api.TAtom, Text: "a"}, one, {Kind: api.TAtom, Text: "b", At: -1}}
			s, l := laid(list, []string{" "})
			n, at, e := Expr(s, l, 0, 3, 0)
			switch {
			case ops.Binary(x.Text) > 0 && (kind == api.TSign || kind == api.TWord):
				if e != api.OK || at != 3 || spell(n) != "Op"+x.Text+"(a b)" {
					t.Error(kind, x, spell(n), at, e)
				}
			case kind == api.TSign && strings.Contains("( # :", x.Text):
				if (x.Text == ":") != (e == api.OK) {
					t.Error(kind, x, spell(n), at, e)
				}
			case e != api.OK || at != 1 || spell(n) != "a":
				t.Error(kind, x, spell(n), at, e)
			}
			n, at, e = Expr(s, l, 1, 2, 0)
			if want := kind >= api.TAtom && kind <= api.TMacro; want != (e == api.OK) || want && (at != 2 || n.Kind != api.NLit || n.Text != x.Text) {
				t.Error(kind, x, spell(n), at, e)
			}
		}
	}
	for _, at := range []int{math.MinInt, -1, 1, 7, math.MaxInt} {
		l := []api.Token{{Kind: api.TSign, Text: "{", At: at}, {Kind: api.TAtom, At: at}, {Kind: api.TSign, Text: ",", At: -at}, {Kind: api.TComment, At: at}, {Kind: api.TAtom, Text: "a", At: 1}, {Kind: api.TSign, Text: "}", At: at}, {Kind: api.TSign, Text: "("}}
		for _, s := range []string{"", "{\n\n,\n\n"} {
			if n, end, e := Expr(s, l, 0, len(l), 0); e != api.OK || end != 6 || n.Kind != api.NTuple || len(n.L) != 2 || len(n.L[1].Notes) != 1 {
				t.Error(at, spell(n), end, e)
			}
		}
	}
}

// kinds are all that may hold their own kind: what begins one, what stands in the last one, and what ends one.
func kinds() [][3]string {
	return [][3]string{
		{"(", "a", ")"}, {"{", "", "}"}, {"[", "a", "]"}, {"<<", "", ">>"}, {"#{", "", "}"}, {"#r{", "", "}"}, {"f(", "", ")"}, {"a:(", "b", ")"}, {"<<(", "a", ")>>"}, {"<<(", "a", "):8>>"}, {"[a|", "b", "]"}, {"[a||", "b", "]"}, {"[a||b<-", "c", "]"}, {"[", "a", "||b]"}, {"a#{", "", "}"}, {"a#r{", "", "}"}, {"#{a=>", "b", "}"}, {"{a,", "b", "}"}, {"{", "a", ",b}"}, {"{%c\n", "", "%d\n}"},
		{"- ", "a", ""}, {"not ", "a", ""}, {"catch ", "a", ""}, {"a=", "b", ""}, {"a++", "b", ""}, {"a::", "b", ""}, {"", "a", "+b"}, {"", "a", "(b)"}, {"", "a", "#{}"}, {"", "a", "#r{}"}, {"", "a", "#r.f"}, {"(", "a", "):b"}, {"-(", "a", ")"}, {"catch(", "a", ")"},
		{"begin ", "a", " end"}, {"case ", "a", " of a->b end"}, {"case a of ", "b", "->c end"}, {"case a of b when ", "c", "->d end"}, {"case a of b->", "c", " end"}, {"if a->", "b", " end"}, {"if ", "a", "->b end"}, {"receive ", "a", "->b end"}, {"receive a->", "b", " end"}, {"receive after ", "a", "->b end"}, {"receive after a->", "b", " end"}, {"fun()->", "a", " end"}, {"fun(", "a", ")->b end"}, {"fun()when ", "a", "->b end"},
	}
}

// nest is a text of that many of a kind, one in the other, and its tokens; it may be longer than any that scan takes.
func nest(t *testing.T, kind [3]string, deep int) (string, []api.Token) {
	t.Helper()
	var l []api.Token
	at := 0
	add := func(s string, times int) {
		one := tokens(t, s)
		for range times {
			for _, x := range one {
				x.At += at
				l = append(l, x)
			}
			at += len(s)
		}
	}
	add(kind[0], deep)
	add(kind[1], 1)
	add(kind[2], deep)
	return strings.Repeat(kind[0], deep) + kind[1] + strings.Repeat(kind[2], deep), l
}

// 13.1 to 13.4: nests of any depth, as nothing names one; they do not stand in the stack of calls, which would end.
func TestGreat(t *testing.T) {
	defer debug.SetMaxStack(debug.SetMaxStack(1 << 20))
	for _, x := range kinds() {
		counts := map[int]int{}
		for _, deep := range []int{1, 2, 100, 70000} {
			s, l := nest(t, x, deep)
			n, at, e := Expr(s, l, 0, len(l), 0)
			counts[deep] = tree.Count(n)
			if want := counts[1] + (deep-1)*(counts[2]-counts[1]); e != api.OK || at != len(l) || deep > 2 && counts[deep] != want {
				t.Error("Expr", x, deep, at, e, counts[deep], want)
			}
			if deep > 100 {
				continue
			}
			body, at, e := Body(s, l, 0, len(l))
			if e != api.OK || at != len(l) || len(body.L) != 1 || tree.Count(body) != 1+counts[deep] {
				t.Error("Body", x, deep, at, e)
			}
			if x[2] == "" || x[0] == "" {
				continue
			}
			if n, at, e := Expr(s, l, 0, len(l)-1, 0); e != api.ErrForm || at != 0 || n.Kind != 0 || len(n.L) != 0 {
				t.Error("Expr, cut off", x, deep, at, e)
			}
		}
		if x[0] != "(" && counts[2] == counts[1] {
			t.Error(x, counts)
		}
	}
}

// 13.2 ( ): that one, however many stand around it.
func TestGreatWithin(t *testing.T) {
	for _, deep := range []int{65536, 65537, 70000, 300000} {
		s, l := nest(t, [3]string{"(", "a", ")"}, deep)
		if n, at, e := Expr(s, l, 0, len(l), 0); e != api.OK || at != 2*deep+1 || !tree.Same(n, api.Node{Kind: api.NLit, Text: "a"}) {
			t.Error(deep, n.Kind, at, e)
		}
	}
}

// As many comments as operators behind which something is open: they are gone over once, not for each of these, or this would not end.
func TestGreatComments(t *testing.T) {
	const many = 1000000
	s, l := nest(t, [3]string{"a = ", "b", "%c\n"}, many)
	for _, x := range []struct {
		sign    string
		at, err int
	}{{")", 2*many + 1, api.OK}, {"=", 0, api.ErrForm}} {
		n, at, e := Expr(s, append(slices.Clip(l), api.Token{Kind: api.TSign, Text: x.sign, At: len(s)}), 0, len(l)+1, 0)
		if at != x.at || e != x.err || tree.Count(n) != max(at, 1) {
			t.Error(x, at, e)
		}
	}
}

// 13.3, 13.4: nests in clauses, and many items and clauses, each with a comment; and nests that do not end.
func TestGreatClauses(t *testing.T) {
	defer debug.SetMaxStack(debug.SetMaxStack(1 << 20))
	const many = 70000
	s, l := nest(t, [3]string{"{", "", "}"}, many)
	end := tokens(t, "-> b")
	l = append(l, end...)
	list, at, e := Clauses(s, l, 0, len(l))
	if e != api.OK || at != len(l) || len(list) != 1 || tree.Count(list[0].L[0]) != 1+many {
		t.Error(len(list), at, e)
	}
	s, l = nest(t, [3]string{"", "a -> b", "; %c\n a -> b"}, many)
	if list, at, e = Clauses(s, l, 0, len(l)); e != api.OK || at != len(l) || len(list) != many+1 {
		t.Error(len(list), at, e)
	}
	s, l = nest(t, [3]string{"", "a", ", %c\n a"}, many)
	if n, at, e := Body(s, l, 0, len(l)); e != api.OK || at != len(l) || len(n.L) != many+1 {
		t.Error(len(n.L), at, e)
	}
	open := make([]api.Token, 1<<17)
	for _, text := range []string{"(", "{", "[", "<<", "#", "-", "+"} {
		for k := range open {
			open[k] = api.Token{Kind: api.TSign, Text: text}
		}
		for _, call := range []face{exprFace(0), bodyFace(), clausesFace()} {
			if list, at, e := call.call("", open, 0, len(open)); len(list) != 0 || at != 0 || e != api.ErrForm {
				t.Error(text, at, e)
			}
		}
	}
}

// memory is where the texts and lists of a node stand.
type memory struct {
	texts map[*byte]string
	lists map[any]string
}

func (m memory) add(t *testing.T, n *api.Node) {
	for _, x := range slices.Concat([]string{n.Text}, n.Notes, n.Tail) {
		m.texts[unsafe.StringData(x)] = x
	}
	for _, p := range []any{unsafe.SliceData(n.L), unsafe.SliceData(n.Notes), unsafe.SliceData(n.Tail)} {
		if reflect.ValueOf(p).IsNil() {
			continue
		}
		if m.lists[p] != "" {
			t.Error("shared", m.lists[p], n.Text)
		}
		m.lists[p] = "list of " + n.Text
	}
	for k := range n.L {
		m.add(t, &n.L[k])
	}
}

// Rules 2 and 3: what is handed in is not changed, nor a part of what is answered; the same arguments have the same answers.
func TestOwn(t *testing.T) {
	s := long()
	l := tokens(t, s)
	for k := range l {
		l[k].Text = strings.Clone(l[k].Text)
	}
	kept := slices.Clone(l)
	one, at, e := Body(s, l, 0, len(l))
	two, _, _ := Body(s, l, 0, len(l))
	if e != api.OK || at != len(l) || !tree.Same(one, two) || !slices.Equal(l, kept) {
		t.Error(spell(one), spell(two), at, e)
	}
	m := memory{map[*byte]string{}, map[any]string{}}
	m.add(t, &one)
	m.add(t, &two)
	for _, x := range l {
		for k := range len(x.Text) {
			p := unsafe.StringData(x.Text[k:])
			if text, ok := m.texts[p]; ok && text != "" {
				t.Error("a piece of a token", text)
			}
		}
	}
	s = "a -> b; %c\n d when e -> f"
	l = tokens(t, s)
	list, _, _ := Clauses(s, l, 0, len(l))
	other, _, _ := Clauses(s, l, 0, len(l))
	clear(list[0].L)
	clear(list)
	if again, _, _ := Clauses(s, l, 0, len(l)); !tree.Same(api.Node{L: other}, api.Node{L: again}) {
		t.Error(other)
	}
}
