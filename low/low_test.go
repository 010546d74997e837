package low

import (
	"reflect"
	"testing"

	"galley/api"
	"galley/doc"
	"galley/parse"
	"galley/render"
	"galley/scan"
	"galley/shape"
)

// read is the expression that s is, all of it.
func read(t *testing.T, s string) api.Node {
	t.Helper()
	l, e := scan.Scan(s)
	if e != api.OK {
		t.Fatalf("%q has no tokens: %d", s, e)
	}
	n, at, e := parse.Expr(s, l, 0, len(l), 0)
	if e != api.OK || at != len(l) {
		t.Fatalf("%q is no expression: %d, %d", s, at, e)
	}
	return n
}

// laid is d as a text.
func laid(t *testing.T, d api.Doc, width int) string {
	t.Helper()
	s, e := render.Render(d, width)
	if e != api.OK {
		t.Fatalf("no layout at %d: %d", width, e)
	}
	return s
}

// told is what an expression is written as on lines of that width.
type told struct {
	s     string
	width int
	want  string
}

// hold holds what is written of each expression, and that what is written is written so again.
func hold(t *testing.T, rows []told) {
	t.Helper()
	for _, x := range rows {
		for _, s := range []string{x.s, x.want} {
			if got := laid(t, Expr(read(t, s)), x.width); got != x.want {
				t.Errorf("%q at %d:\n%s\nnot\n%s", s, x.width, got, x.want)
			}
		}
	}
}

// 19.2: the chapter's example, and what rows are.
func TestExample(t *testing.T) {
	d := Expr(read(t, "a + b"))
	want := doc.Group(doc.Text("a"), doc.Nest(4, doc.Text(" +"), aLine, doc.Text("b")))
	for width := 1; width <= 10; width++ {
		if got, want := laid(t, d, width), laid(t, want, width); got != want {
			t.Errorf("%q, not %q", got, want)
		}
	}
	if d.Kind != api.DGroup || len(render.Modes(d, 80)) != 1 {
		t.Error(d)
	}
	if one := Expr(read(t, "a")); !reflect.DeepEqual(one, doc.Text("a")) {
		t.Error("a row of one is that one:", one)
	}
	if two := Expr(read(t, "f()")); two.Kind != api.DCat {
		t.Error("a row is a Cat:", two)
	}
}

// 19.2: what has no lines in it is the same on lines of any width.
func TestNames(t *testing.T) {
	for s, want := range map[string]string{
		"a": "a", "'A b'": "'A b'", "'é'": "'é'", "X": "X", "_": "_", "1": "1", "1_0": "1_0", "16#FF": "16#FF", "1.5e-3": "1.5e-3", "$a": "$a", "$\\n": "$\\n", `"a b"`: `"a b"`, `"\n"`: `"\n"`, "?M": "?M", "??M": "??M", "(a)": "a", "((a))": "a",
		"fun f / 1": "fun f/1", "fun m : F / ?A": "fun m:F/?A", "fun ?M:f/X": "fun ?M:f/X",
		"m : f": "m:f", "(m):(f)": "m:f", "X:?F": "X:?F", "(1):a": "(1):a", `("a"):b`: `("a"):b`, "($a):b": "($a):b", "a:(1)": "a:(1)", "a:($a)": "a:($a)", "(a:b):c": "(a:b):c", "a:(b:c)": "a:(b:c)", "(f()):g": "(f()):g", "a:(f())": "a:(f())", "({}):(-X)": "({}):(-X)", "(#{}):(#r{})": "(#{}):(#r{})", "(X#r.f):(a)": "(X#r.f):a", "(catch a):b": "(catch a):b",
		"X # r .f": "X#r.f", "(1)#r.f": "(1)#r.f", "f()#r.f#s.g": "f()#r.f#s.g", "(-X)#?R.f": "(-X)#?R.f", "(m:f)#r.f": "m:f#r.f", "X#R.'f g'": "X#R.'f g'", "($a)#r.f": "($a)#r.f",
		"f ( )": "f()", "f(\n)": "f()", "{ }": "{}", "[ ]": "[]", "[\n\n]": "[]", "<< >>": "<<>>", "# { }": "#{}", "X # {\n}": "X#{}", "# r { }": "#r{}", "X # r { }": "X#r{}",
	} {
		for _, width := range []int{1, 80} {
			if got := laid(t, Expr(read(t, s)), width); got != want {
				t.Errorf("%q: %q, not %q", s, got, want)
			}
		}
	}
}

// 19.2: calls.
func TestCalls(t *testing.T) {
	hold(t, []told{
		{"f(a,b)", 7, "f(a, b)"}, {"f(a,b)", 6, "f(\n    a,\n    b\n)"},
		{"f(\na,b)", 80, "f(\n    a,\n    b\n)"}, {"f(a,\nb\n)", 80, "f(a, b)"},
		{"f(a)(b)", 7, "f(a)(b)"}, {"f(a)(b)", 6, "f(a)(\n    b\n)"}, {"f(a)(b)", 4, "f(\n    a\n)(b)"}, {"f(\na)(b)", 80, "f(\n    a\n)(b)"}, {"f(a)(\nb)", 80, "f(a)(\n    b\n)"},
		{"(f)(a)", 80, "f(a)"}, {"(m:f)(a)", 80, "m:f(a)"}, {"X#r.f(a)", 80, "X#r.f(a)"}, {"(X#r.f)(a)", 80, "X#r.f(a)"}, {"#{}(a)", 80, "#{}(a)"}, {"#r{}(a)", 80, "#r{}(a)"}, {"X#{}(a)", 80, "X#{}(a)"}, {"X#r{}(a)", 80, "X#r{}(a)"},
		{"(1)(a)", 80, "(1)(a)"}, {"(1.5)()", 80, "(1.5)()"}, {"(X+1)(a)", 80, "(X + 1)(a)"}, {`("a")()`, 80, `("a")()`}, {"($a)()", 80, "($a)()"}, {"({a})(b)", 80, "({a})(b)"}, {"([])()", 80, "([])()"}, {"(<<>>)()", 80, "(<<>>)()"}, {"([a||b])(c)", 80, "([a || b])(c)"}, {"(-f)(a)", 80, "(-f)(a)"}, {"(catch f)(a)", 80, "(catch f)(a)"},
		{"(fun f/1)(a)", 80, "(fun f/1)(a)"}, {"(fun() -> a end)(b)", 80, "(fun() -> a end)(b)"}, {"(begin a end)()", 80, "(begin\n    a\nend)()"}, {"(case a of b -> c end)(d)", 80, "(case a of\n    b -> c\nend)(d)"},
		{"f((catch a), (b=c), (d::e), (g|h))", 80, "f(catch a, b = c, d :: e, g | h)"},
	})
}

// 19.2: tuples, lists, and what is of bits.
func TestLists(t *testing.T) {
	hold(t, []told{
		{"{a}", 3, "{a}"}, {"{a}", 2, "{\n    a\n}"}, {"{\na}", 80, "{\n    a\n}"}, {"{(catch a), (b|c), (d::e)}", 80, "{catch a, b | c, d :: e}"}, {"{{a,b},{c}}", 12, "{\n    {a, b},\n    {c}\n}"}, {"{{\na}}", 80, "{\n    {\n        a\n    }\n}"},
		{"[a,b]", 6, "[a, b]"}, {"[a,b]", 5, "[\n    a,\n    b\n]"}, {"[(catch a), (b|c), (d::e), f=g]", 80, "[(catch a), (b | c), (d :: e), f = g]"},
		{"[a|b]", 7, "[a | b]"}, {"[a|b]", 6, "[\n    a\n    | b\n]"}, {"[a,b|c]", 80, "[a, b | c]"}, {"[\na,b|c]", 80, "[\n    a,\n    b\n    | c\n]"}, {"[a|(b|c)]", 80, "[a | (b | c)]"}, {"[a|[b|[]]]", 80, "[a | [b | []]]"}, {"[a|(catch b)]", 80, "[a | (catch b)]"}, {"[a|b=c]", 80, "[a | b = c]"},
		{`<<a,1,"s",$a,X,?M>>`, 80, `<<a, 1, "s", $a, X, ?M>>`}, {"<<a : 8 / b - c>>", 80, "<<a:8/b-c>>"}, {"<<a:8,b>>", 10, "<<a:8, b>>"}, {"<<a:8,b>>", 9, "<<\n    a:8,\n    b\n>>"}, {"<<\na>>", 80, "<<\n    a\n>>"},
		{"<<(a):8, (f(a)), (f(a)):8, (-1), (-1)/a, (a:b)>>", 80, "<<a:8, (f(a)), (f(a)):8, (-1), (-1)/a, (a:b)>>"}, {"<<(<<1>>):8, <<2>>, ({a}), (catch a), (f/1), (X#r.f)>>", 80, "<<<<1>>:8, <<2>>, ({a}), (catch a), (f/1), (X#r.f)>>"}, {"<<(a=b), (fun f/1), (#{})>>", 80, "<<(a = b), (fun f/1), (#{})>>"},
	})
}

// 19.2: maps and records.
func TestPairs(t *testing.T) {
	hold(t, []told{
		{"#{a=>b,c:=d}", 80, "#{a => b, c := d}"}, {"#{a=>b,c:=d}", 12, "#{\n    a => b,\n    c := d\n}"}, {"#{a, b=c, (catch d), e::f}", 80, "#{a, b = c, (catch d), e :: f}"}, {"#{(catch a)=>(catch b), c::d=>e=f}", 80, "#{(catch a) => (catch b), c :: d => e = f}"},
		{"#{aa=>bb}", 9, "#{\n    aa =>\n        bb\n}"}, {"#{a=>#{b=>c}}", 12, "#{\n    a => #{\n        b =>\n            c\n    }\n}"}, {"#{a=>f(\nb)}", 80, "#{\n    a => f(\n        b\n    )\n}"}, {"#{a=>b=c}", 9, "#{\n    a =>\n        b =\n            c\n}"}, {"#{a:={b}=c}", 80, "#{a := {b} = c}"},
		{"X#{a=>1}", 80, "X#{a => 1}"}, {"#{}#{a=>1}#{b:=2}", 80, "#{}#{a => 1}#{b := 2}"}, {"(X)#{a=>1}", 80, "X#{a => 1}"}, {"({})#{a}", 80, "({})#{a}"}, {"(1)#{(catch a)}", 80, "(1)#{(catch a)}"}, {"X#{\na:=b}", 80, "X#{\n    a := b\n}"},
		{"#r{a=b,_=c}", 80, "#r{a = b, _ = c}"}, {"#r{(catch a),b::c}", 80, "#r{catch a, b :: c}"}, {"#?R{\na}", 80, "#?R{\n    a\n}"}, {"#'r s'{a}", 9, "#'r s'{a}"}, {"#r{aa=b}", 7, "#r{\n    aa =\n        b\n}"},
		{"X#r{a=1}", 80, "X#r{a = 1}"}, {"X#R{\na}", 80, "X#R{\n    a\n}"}, {"(1)#r{(catch a)}", 80, "(1)#r{catch a}"}, {"X#r{a}#s{b}#t.c", 80, "X#r{a}#s{b}#t.c"},
	})
}

// 19.1: comments ahead of items, and ahead of what closes.
func TestBoxComments(t *testing.T) {
	hold(t, []told{
		{"f(%a\n)", 80, "f(\n    %a\n)"}, {"f(\n%a\n\n%b\n)", 80, "f(\n    %a\n    %b\n)"}, {"f(%a\nb)", 80, "f(\n    %a\n    b\n)"}, {"f(b %a\n)", 80, "f(\n    b\n    %a\n)"}, {"f(a, %b\n%c\nd %e\n%f\n)", 80, "f(\n    a,\n    %b\n    %c\n    d\n    %e\n    %f\n)"}, {"f(%a\n)(b)", 80, "f(\n    %a\n)(b)"},
		{"{%a\n}", 80, "{\n    %a\n}"}, {"[%a\n]", 80, "[\n    %a\n]"}, {"[%a\nb|c %d\n]", 80, "[\n    %a\n    b\n    | c\n    %d\n]"}, {"<<%a\n>>", 80, "<<\n    %a\n>>"}, {"<<a, %b\nc:8 %d\n>>", 80, "<<\n    a,\n    %b\n    c:8\n    %d\n>>"},
		{"#{%a\n}", 80, "#{\n    %a\n}"}, {"#{a=>b, %c\nd:=e}", 80, "#{\n    a => b,\n    %c\n    d := e\n}"}, {"X#{%a\n}", 80, "X#{\n    %a\n}"}, {"X#{%a\nb=>c}", 80, "X#{\n    %a\n    b => c\n}"}, {"#r{%a\n}", 80, "#r{\n    %a\n}"}, {"X#r{a %b\n}", 80, "X#r{\n    a\n    %b\n}"},
		{"X = {%a\n b}", 80, "X = {\n    %a\n    b\n}"}, {"f(a, {%b\n c})", 80, "f(\n    a,\n    {\n        %b\n        c\n    }\n)"}, {"a + f(%b\n c)", 80, "a +\n    f(\n        %b\n        c\n    )"},
	})
}

// 19.2: what stands ahead of its one operand.
func TestPrefixes(t *testing.T) {
	hold(t, []told{
		{"- a", 80, "-a"}, {"+ 1", 80, "+1"}, {"- - a", 80, "- -a"}, {"+-a", 80, "+ -a"}, {"-(+(-a))", 80, "- + -a"}, {"- not a", 80, "-not a"}, {"- bnot - a", 80, "-bnot -a"}, {"not - a", 80, "not -a"}, {"bnot(not a)", 80, "bnot not a"}, {"not(a)", 80, "not a"},
		{"-(catch a)", 80, "-(catch a)"}, {"-(a+b)", 80, "-(a + b)"}, {"not(a*b)", 80, "not (a * b)"}, {"-f(a)", 80, "-f(a)"}, {"-{a}", 80, "-{a}"}, {"-$a", 80, "-$a"}, {"not(f/1)", 80, "not (f/1)"}, {"-f(a,b)", 5, "-f(\n    a,\n    b\n)"},
		{"catch(catch a)", 80, "catch catch a"}, {"catch a=b", 80, "catch a = b"}, {"(catch a)=b", 80, "(catch a) = b"}, {"catch - a", 80, "catch -a"}, {"catch(a::b)", 80, "catch a :: b"}, {"catch aa + b", 9, "catch aa +\n    b"},
		{"-a*-b", 80, "-a * -b"}, {"a - -b", 80, "a - -b"}, {"a+ +b", 80, "a + +b"}, {"a--(-b)", 80, "a -- -b"},
	})
}

// 19.2: operators between two operands, and parentheses where they must be.
func TestOperators(t *testing.T) {
	hold(t, []told{
		{"a+b", 5, "a + b"}, {"a+b", 4, "a +\n    b"}, {"a+b+c", 9, "a + b + c"}, {"a+b+c", 8, "a + b +\n    c"}, {"a+b+c", 6, "a +\n    b +\n    c"}, {"a+b*c", 8, "a +\n    b *\n        c"}, {"aaa+b*c", 9, "aaa +\n    b * c"}, {"a*b+c", 7, "a * b +\n    c"},
		{"a-b-c", 80, "a - b - c"}, {"a-(b-c)", 80, "a - (b - c)"}, {"(a-b)-c", 80, "a - b - c"}, {"(a+b)*c", 80, "(a + b) * c"}, {"a*(b*c)", 80, "a * (b * c)"}, {"(a bor b)band c", 80, "(a bor b) band c"}, {"a band b and c", 80, "a band b and c"},
		{"a==b", 80, "a == b"}, {"(a==b)==c", 80, "(a == b) == c"}, {"a=:=(b=/=c)", 80, "a =:= (b =/= c)"}, {"a=<b+c", 80, "a =< b + c"}, {"(a orelse b)andalso c", 80, "(a orelse b) andalso c"}, {"a orelse b andalso c", 80, "a orelse b andalso c"}, {"a|b|c", 80, "a | b | c"}, {"a|(b|c)", 80, "a | (b | c)"}, {"a|(b::c)", 80, "a | (b :: c)"}, {"a+(catch b)", 80, "a + (catch b)"}, {"(catch a)+b", 80, "(catch a) + b"},
		{"aa|bb|cc", 11, "aa | bb |\n    cc"}, {"aa=:=(bb=:=cc)", 12, "aa =:=\n    (bb =:=\n        cc)"}, {"aa+f(bb)", 8, "aa +\n    f(\n        bb\n    )"}, {"f(\na)+b", 80, "f(\n    a\n) +\n    b"},
	})
}

// 19.2: operators that group to the right stand in one row with those of their level.
func TestRows(t *testing.T) {
	hold(t, []told{
		{"a=b=c", 80, "a = b = c"}, {"a=(b=c)", 80, "a = b = c"}, {"(a=b)=c", 80, "(a = b) = c"}, {"a=b!c", 80, "a = b ! c"}, {"a!(b=c)", 80, "a ! b = c"}, {"(a!b)=c", 80, "(a ! b) = c"}, {"a::b::c", 80, "a :: b :: c"}, {"(a::b)::c", 80, "(a :: b) :: c"}, {"a::b|c|d", 80, "a :: b | c | d"}, {"a++b--c", 80, "a ++ b -- c"}, {"(a++b)--c", 80, "(a ++ b) -- c"}, {"a=(b::c)", 80, "a = (b :: c)"}, {"a=(catch b)", 80, "a = (catch b)"}, {"a=b=(catch c)", 80, "a = b = (catch c)"}, {"a=(b=c)=d", 80, "a = (b = c) = d"},
		{"aa=bb=cc", 11, "aa =\n    bb =\n    cc"}, {"aa!bb=cc!dd", 11, "aa !\n    bb =\n    cc !\n    dd"}, {"aa orelse bb orelse cc", 21, "aa orelse\n    bb orelse\n    cc"}, {"aa andalso bb andalso cc", 23, "aa andalso\n    bb andalso\n    cc"}, {"aa++bb--cc++dd", 11, "aa ++\n    bb --\n    cc ++\n    dd"}, {"aa::bb::cc", 12, "aa ::\n    bb ::\n    cc"},
		{"aa=bb++cc", 12, "aa =\n    bb ++ cc"}, {"aa=bb++cc", 11, "aa =\n    bb ++\n        cc"}, {"aa orelse bb=cc", 80, "aa orelse bb = cc"}, {"(aa=bb)orelse cc", 80, "(aa = bb) orelse cc"}, {"aa orelse bb andalso cc orelse dd", 24, "aa orelse\n    bb andalso cc orelse\n    dd"}, {"aa=(bb=cc)=dd", 12, "aa =\n    (bb =\n        cc) =\n    dd"},
	})
}

// 19.2, 18.2: what stays in the line of its operator.
func TestHugs(t *testing.T) {
	hold(t, []told{
		{"aa={b,cc}", 12, "aa = {b, cc}"}, {"aa={b,cc}", 11, "aa = {\n    b,\n    cc\n}"}, {"aa=[b]", 7, "aa = [\n    b\n]"}, {"aa=f(b)", 7, "aa = f(\n    b\n)"}, {"aa=m:f(b)", 7, "aa = m:f(\n    b\n)"}, {"aa= <<b>>", 7, "aa = <<\n    b\n>>"}, {"aa=#{b}", 7, "aa = #{\n    b\n}"}, {"aa=B#{c}", 7, "aa = B#{\n    c\n}"}, {"aa=#r{b}", 7, "aa = #r{\n    b\n}"}, {"aa=B#r{c}", 7, "aa = B#r{\n    c\n}"}, {"aa=[b||c]", 7, "aa = [\n    b\n    || c\n]"}, {"aa::{b}", 7, "aa :: {\n    b\n}"},
		{"aa=fun()->b end", 7, "aa = fun() ->\n    b\nend"}, {"aa=case b of c->d end", 7, "aa = case b of\n    c ->\n        d\nend"}, {"aa=if b->d end", 9, "aa = if\n    b ->\n        d\nend"}, {"aa=receive b->d end", 80, "aa = receive\n    b -> d\nend"}, {"aa=begin b end", 80, "aa = begin\n    b\nend"},
		{"aa=fun f/1", 7, "aa =\n    fun f/1"}, {"aa=m:f", 7, "aa =\n    m:f"}, {"aa=B#r.f", 7, "aa =\n    B#r.f"}, {"aa=-f(b)", 7, "aa =\n    -f(\n        b\n    )"}, {"aa!{b}", 7, "aa !\n    {b}"}, {"aa++[b]", 7, "aa ++\n    [b]"}, {"aa=={b}", 7, "aa ==\n    {b}"}, {"aa+f(b)", 8, "aa +\n    f(b)"},
		{"aa={b}=cc", 13, "aa = {b} = cc"}, {"aa={b}=cc", 12, "aa = {b} =\n    cc"}, {"aa=bb={c}", 12, "aa =\n    bb = {c}"}, {"aa={\nb}={c}", 80, "aa = {\n    b\n} = {c}"}, {"aa={\nb}=cc", 80, "aa = {\n        b\n    } =\n    cc"}, {"aa={b}=cc={d}", 18, "aa = {b} =\n    cc = {d}"}, {"aa={b}!{c}", 13, "aa = {b} !\n    {c}"}, {"(aa={b})=cc", 80, "(aa = {b}) = cc"},
	})
}

// 19.2: a name and how many arguments it has.
func TestCounts(t *testing.T) {
	hold(t, []told{
		{"f / 1", 1, "f/1"}, {"X / 2", 1, "X/2"}, {"?M / 2", 1, "?M/2"}, {"_ / 2", 1, "_/2"}, {"'f g' / 0", 1, "'f g'/0"}, {"f / 16#FF", 1, "f/16#FF"}, {"f / 1_0", 1, "f/1_0"}, {"f / 9", 1, "f/9"}, {"f / 09", 1, "f/09"}, {"(f) / (1)", 1, "f/1"},
		{"[f/1, X/2|y/3]", 80, "[f/1, X/2 | y/3]"}, {"f/1/2", 80, "f/1 / 2"}, {"f/1*2", 80, "f/1 * 2"}, {"2*f/1", 80, "2 * f / 1"}, {"-f/1", 80, "-f / 1"}, {"-(f/1)", 80, "-(f/1)"}, {"f/1+2", 6, "f/1 +\n    2"}, {"a=f/1", 80, "a = f/1"},
		{"a/b", 80, "a / b"}, {"a/X", 80, "a / X"}, {"1/2", 80, "1 / 2"}, {"$a/2", 80, "$a / 2"}, {`"a"/2`, 80, `"a" / 2`}, {"x/1.5", 80, "x / 1.5"}, {"x/1.5e3", 80, "x / 1.5e3"}, {"x/$1", 80, "x / $1"}, {"x/?M", 80, "x / ?M"}, {"x/f(1)", 80, "x / f(1)"}, {"f(x)/1", 80, "f(x) / 1"}, {"m:f/1", 80, "m:f / 1"}, {"X#r.f/1", 80, "X#r.f / 1"}, {"f/-1", 80, "f / -1"}, {"f*1", 80, "f * 1"}, {"f div 1", 80, "f div 1"}, {"f-1", 80, "f - 1"},
	})
}

// 19.2: lists with qualifiers.
func TestComprehensions(t *testing.T) {
	hold(t, []told{
		{"[X||X<-L]", 13, "[X || X <- L]"}, {"[X||X<-L]", 12, "[\n    X\n    || X <-\n        L\n]"}, {"[\nX||X<-L]", 80, "[\n    X\n    || X <- L\n]"}, {"[X||a]", 80, "[X || a]"}, {"[X||X<-L,a,<<Y>> <=Z]", 80, "[X || X <- L, a, <<Y>> <= Z]"}, {"[\nX||X<-L,a,<<Y>> <=Z]", 80, "[\n    X\n    || X <- L,\n    a,\n    <<Y>> <= Z\n]"},
		{"[(catch a)||(catch b), (c|d), (e::f), g=h]", 80, "[(catch a) || (catch b), (c | d), (e :: f), g = h]"}, {"[(a|b)||(c|d)<-(e::f), {X}=Y<-Z]", 80, "[(a | b) || (c | d) <- (e :: f), {X} = Y <- Z]"}, {"[{a,\nb}||{\nX}<-L]", 80, "[\n    {a, b}\n    || {\n        X\n    } <-\n        L\n]"}, {"[[a||b]||c]", 80, "[[a || b] || c]"},
	})
}

// 19.2: what ends with end; comments ahead of clauses, of after, of expressions, and of end.
func TestBlocks(t *testing.T) {
	hold(t, []told{
		{"case a of b->c end", 80, "case a of\n    b -> c\nend"}, {"case (catch a) of (catch b)->c; d->(catch e) end", 80, "case catch a of\n    (catch b) -> c;\n    d -> catch e\nend"}, {"case a of %x\n b->c; %y\n %z\n d->e %f\n %g\n end", 80, "case a of\n    %x\n    b -> c;\n    %y\n    %z\n    d -> e\n    %f\n    %g\nend"}, {"case f(aa) of b->c end", 10, "case f(\n    aa\n) of\n    b -> c\nend"}, {"case a of b::c=d when e->f end", 80, "case a of\n    b :: c = d when e -> f\nend"},
		{"if a->b end", 80, "if\n    a -> b\nend"}, {"if a,b;c->d; %x\n true->e %y\n end", 80, "if\n    a, b; c -> d;\n    %x\n    true -> e\n    %y\nend"}, {"if (catch a)->b end", 80, "if\n    (catch a) -> b\nend"}, {"if %x\n a->b end", 80, "if\n    %x\n    a -> b\nend"},
		{"receive a->b end", 80, "receive\n    a -> b\nend"}, {"receive %x\n a when b->c; %y\n d->e %z\n end", 80, "receive\n    %x\n    a when b -> c;\n    %y\n    d -> e\n    %z\nend"}, {"receive after 1->b end", 80, "receive\nafter\n    1 -> b\nend"}, {"receive %x\n after 1->b end", 80, "receive\n%x\nafter\n    1 -> b\nend"}, {"receive a->b %x\n %y\n after 1+2->c, d %z\n end", 80, "receive\n    a -> b\n%x\n%y\nafter\n    1 + 2 ->\n        c,\n        d\n    %z\nend"}, {"receive a->b after 1->\nc end", 80, "receive\n    a -> b\nafter\n    1 ->\n        c\nend"}, {"receive after (catch 1)->b end", 80, "receive\nafter\n    (catch 1) -> b\nend"},
		{"begin a end", 80, "begin\n    a\nend"}, {"begin a, (catch b), c=d end", 80, "begin\n    a,\n    catch b,\n    c = d\nend"}, {"begin %x\n a, %y\n b %z\n end", 80, "begin\n    %x\n    a,\n    %y\n    b\n    %z\nend"}, {"begin a,\n\n\nb,\nc end", 80, "begin\n    a,\n\n    b,\n    c\nend"}, {"begin\n\na,\n\n%x\n\nb, %y\n\nc end", 80, "begin\n    a,\n\n    %x\n    b,\n    %y\n    c\nend"},
		{"fun()->a end", 80, "fun() -> a end"}, {"fun(X,Y)->a end", 17, "fun(X, Y) ->\n    a\nend"}, {"fun(X,Y)->a end", 11, "fun(\n    X,\n    Y\n) ->\n    a\nend"}, {"fun()->\na end", 80, "fun() ->\n    a\nend"}, {"fun(\nX)->a end", 80, "fun(\n    X\n) ->\n    a\nend"}, {"fun(%x\n)->a end", 80, "fun(\n    %x\n) ->\n    a\nend"}, {"fun((catch a),b|c)->a end", 80, "fun(catch a, b | c) -> a end"}, {"fun(X) when X,a;b->c end", 80, "fun(X) when X, a; b -> c end"}, {"fun()->a,b end", 80, "fun() ->\n    a,\n    b\nend"}, {"fun()->%x\na end", 80, "fun() ->\n    %x\n    a\nend"}, {"fun()->a %x\n%y\nend", 80, "fun() ->\n    a\n    %x\n    %y\nend"}, {"fun()->{\na} end", 80, "fun() ->\n    {\n        a\n    }\nend"},
		{"fun(a)->b;(d) when e->f end", 80, "fun\n    (a) -> b;\n    (d) when e -> f\nend"}, {"fun()->b; %x\n (d,e)->\nf; ()->g %y\n end", 80, "fun\n    () -> b;\n    %x\n    (d, e) ->\n        f;\n    () -> g\n    %y\nend"},
	})
}

// 19.3: clauses on one line, or with what they do behind it.
func TestGuards(t *testing.T) {
	hold(t, []told{
		{"case a of b when c->d end", 17, "case a of\n    b when c -> d\nend"}, {"case a of b when c->d end", 16, "case a of\n    b when c ->\n        d\nend"}, {"case a of b->\nd end", 80, "case a of\n    b ->\n        d\nend"}, {"case a of b when c,d;(e::f),(catch g)->h end", 80, "case a of\n    b when c, d; e :: f, (catch g) -> h\nend"}, {"if a==b,c;d->\ne end", 80, "if\n    a == b, c; d ->\n        e\nend"}, {"case a of {b,c}->d end", 9, "case a of\n    {\n        b,\n        c\n    } ->\n        d\nend"}, {"case a of b->c,d end", 80, "case a of\n    b ->\n        c,\n        d\nend"},
	})
}

// 19.3: Clause, whose it is is seen from its parts; Body.
func TestClause(t *testing.T) {
	first := func(s string) api.Node {
		n := read(t, s)
		return n.L[len(n.L)-1]
	}
	form := func(s string) api.Node {
		l, _ := scan.Scan(s)
		return shape.Form(s, l, api.Item{To: len(l)}).L[0]
	}
	for _, x := range []struct {
		n     api.Node
		width int
		want  string
	}{
		{first("case a of b when c, d; e -> f end"), 80, "b when c, d; e -> f"}, {first("case a of %n\n(catch b) ->\nf end"), 80, "(catch b) ->\n    f"}, {first("receive b -> f end"), 5, "b ->\n    f"}, {first("receive after 1 -> f, g end"), 80, "1 ->\n    f,\n    g"},
		{first("if a, b; c -> d end"), 80, "a, b; c -> d"}, {first("if a -> %x\n d end"), 80, "a ->\n    %x\n    d"},
		{first("fun() -> a end"), 80, "() -> a"}, {first("fun(a, b) when c -> d end"), 80, "(a, b) when c -> d"}, {first("fun(a) when b -> c end"), 80, "a when b -> c"}, {first("fun() when b -> c end"), 80, "b -> c"},
		{form("f() -> a."), 80, "f() -> a"}, {form("f(X) when X -> a."), 80, "f(X) when X -> a"}, {form("f() when a; b -> c."), 80, "f() when a; b -> c"}, {form("?M(\na, %x\nb %y\n) ->\nc."), 80, "?M(\n    a,\n    %x\n    b\n    %y\n) ->\n    c"}, {form("f(a) -> b."), 8, "f(a) ->\n    b"}, {form("f(a) -> b."), 6, "f(\n    a\n) ->\n    b"}, {form("-spec f(a) -> b | c."), 80, "f(a) -> b | c"}, {form("-callback f() -> b."), 80, "f() -> b"},
	} {
		if got := laid(t, Clause(x.n), x.width); got != x.want {
			t.Errorf("at %d:\n%s\nnot\n%s", x.width, got, x.want)
		}
	}
	for s, want := range map[string]string{
		"a": "a", "(catch a), b::c": "catch a,\nb :: c", "%x\na, %y\n%z\nb": "%x\na,\n%y\n%z\nb", "a,\n\nb, c,\n\n%x\nd": "a,\n\nb,\nc,\n\n%x\nd", "f(\na), b": "f(\n    a\n),\nb",
	} {
		l, _ := scan.Scan(s)
		n, _, e := parse.Body(s, l, 0, len(l))
		if got := laid(t, Body(n), 80); got != want || e != api.OK {
			t.Errorf("%q: %q, not %q", s, got, want)
		}
	}
}

// 19.1: At.
func TestAt(t *testing.T) {
	for _, x := range []struct {
		s     string
		level int
		want  string
	}{
		{"a", 11, "a"}, {"a", 12, "(a)"}, {"f(b)", 11, "f(b)"}, {"-a", 10, "-a"}, {"-a", 11, "(-a)"}, {"a + b", 8, "a + b"}, {"a + b", 9, "(a + b)"}, {"a = b", 3, "a = b"}, {"a = b", 4, "(a = b)"}, {"catch a", 0, "catch a"}, {"catch a", 1, "(catch a)"}, {"catch a", -1, "catch a"}, {"a :: b", 1, "a :: b"}, {"a :: b", 2, "(a :: b)"}, {"a", 1 << 40, "(a)"}, {"a + b", -1 << 40, "a + b"}, {"f/1", 9, "f/1"}, {"f/1", 10, "(f/1)"},
	} {
		if got := laid(t, At(read(t, x.s), x.level), 80); got != x.want {
			t.Errorf("%q at %d: %q, not %q", x.s, x.level, got, x.want)
		}
	}
	pair := read(t, "#{a => b}").L[0]
	if got := laid(t, At(pair, 1), 80) + laid(t, At(pair, 0), 80) + laid(t, Expr(pair), 80); got != "(a => b)a => ba => b" {
		t.Error(got)
	}
	generator := read(t, "[a || X <- L]").L[1]
	if got := laid(t, At(generator, 3), 80) + laid(t, Expr(generator), 80); got != "(X <- L)X <- L" {
		t.Error(got)
	}
}

// 19.1: Box, of lists that are not those of the node beside them too.
func TestBox(t *testing.T) {
	a, sum := read(t, "a"), read(t, "a + b")
	pair := read(t, "#{a => b}").L[0]
	noted := api.Node{Kind: api.NLit, Text: "c", Notes: []string{"%x", "%y"}}
	none, broken := api.Node{}, api.Node{Kind: api.NTuple, Break: true}
	tailed := api.Node{Kind: api.NTuple, Tail: []string{"%t", "%u"}}
	bar := api.Node{Kind: api.NList, Text: "|"}
	both := []api.Node{a, sum}
	for k, x := range []struct {
		open  string
		l     []api.Node
		level int
		end   string
		n     api.Node
		want  string
	}{
		{"(", nil, 0, ")", none, "()"}, {"(", []api.Node{}, 0, ")", broken, "()"}, {"", nil, 0, "", none, ""}, {"<", nil, 3, ">", bar, "<>"},
		{"(", nil, 0, ")", tailed, "(\n    %t\n    %u\n)"}, {"(", both, 0, ")", tailed, "(\n    a,\n    a + b\n    %t\n    %u\n)"},
		{"(", both, 8, ")", none, "(a, a + b)"}, {"(", both, 9, ")", none, "(a, (a + b))"}, {"(", both, 12, ")", none, "((a), (a + b))"}, {"beg in", both, 0, "e", none, "beg ina, a + be"},
		{"(", both, 0, ")", broken, "(\n    a,\n    a + b\n)"}, {"(", []api.Node{pair, pair}, 11, ")", none, "(a => b, a => b)"},
		{"(", []api.Node{a, noted, a}, 0, ")", none, "(\n    a,\n    %x\n    %y\n    c,\n    a\n)"}, {"(", []api.Node{noted}, 0, ")", tailed, "(\n    %x\n    %y\n    c\n    %t\n    %u\n)"},
		{"[", both, 0, "]", bar, "[a | a + b]"}, {"(", []api.Node{a, a, a}, 0, ")", bar, "(a, a | a)"}, {"[", []api.Node{a, noted}, 0, "]", bar, "[\n    a\n    | %x\n    %y\n    c\n]"}, {"[", both, 0, "]", api.Node{Kind: api.NTuple, Text: "|"}, "[a, a + b]"}, {"[", both, 0, "]", api.Node{Kind: api.NList}, "[a, a + b]"},
		{"(", []api.Node{a}, 0, ")", api.Node{Kind: api.NTuple, Text: "x", L: both, Notes: []string{"%n"}, Blank: true}, "(a)"},
	} {
		if got := laid(t, Box(x.open, x.l, x.level, x.end, x.n), 80); got != x.want {
			t.Errorf("%d: %q, not %q", k, got, x.want)
		}
	}
}
