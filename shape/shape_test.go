package shape

import (
	"math"
	"math/rand"
	"reflect"
	"runtime/debug"
	"slices"
	"strings"
	"testing"
	"unsafe"

	"galley/api"
	"galley/scan"
	"galley/split"
	"galley/tree"
)

// tokens are those of s.
func tokens(t *testing.T, s string) []api.Token {
	t.Helper()
	l, e := scan.Scan(s)
	if e != api.OK {
		t.Fatal(s, e)
	}
	return l
}

// holdTable holds rows of a form and its tree; "" is of one that has no derivation.
func holdTable(t *testing.T, rows [][2]string) {
	t.Helper()
	for _, x := range rows {
		s, want := x[0], x[1]
		if want == "" {
			want = spell(api.Node{Kind: api.NRaw, Text: s})
		}
		l := tokens(t, s)
		if n := Form(s, l, api.Item{From: 0, To: len(l)}); spell(n) != want {
			t.Errorf("%q: %s, want %s", s, spell(n), want)
		}
	}
}

// 14.1 Form: clauses of functions.
func TestFunction(t *testing.T) {
	holdTable(t, [][2]string{
		{"f() -> ok.", "Func(Clausef(Args() Guard() Body(ok)))"}, {"f( )->ok.", "Func(Clausef(Args() Guard() Body(ok)))"}, {"'f g'() -> a.", "Func(Clause'f g'(Args() Guard() Body(a)))"}, {"'f'() -> a.", "Func(Clause'f'(Args() Guard() Body(a)))"},
		{"?M() -> 1.", "Func(Clause?M(Args() Guard() Body(1)))"}, {"??M() -> 1.", "Func(Clause??M(Args() Guard() Body(1)))"}, {"?f(a) -> 1; ?g(b) -> 2.", "Func(Clause?f(Args(a) Guard() Body(1)) Clause?g(Args(b) Guard() Body(2)))"},
		{"f(a, catch B, {c}) -> d.", "Func(Clausef(Args(a Uncatch(B) Tuple(c)) Guard() Body(d)))"}, {"f(A = [b | C]) -> d, e, catch g.", "Func(Clausef(Args(Op=(A List|(b C))) Guard() Body(d e Uncatch(g))))"},
		{"f() when a -> b.", "Func(Clausef(Args() Guard(Body(a)) Body(b)))"}, {"f() when a, b = c; d :: e, f -> g.", "Func(Clausef(Args() Guard(Body(a Op=(b c)) Body(Op::(d e) f)) Body(g)))"}, {"f() when a; b; c -> d.", "Func(Clausef(Args() Guard(Body(a) Body(b) Body(c)) Body(d)))"},
		{"f(a) -> b; f(c) -> d.", "Func(Clausef(Args(a) Guard() Body(b)) Clausef(Args(c) Guard() Body(d)))"}, {"f() when a; b() -> c; g() when d, e -> h; ?M() -> i.", "Func(Clausef(Args() Guard(Body(a) Body(Call(b))) Body(c)) Clauseg(Args() Guard(Body(d e)) Body(h)) Clause?M(Args() Guard() Body(i)))"},
		{"spec() -> a.", "Func(Clausespec(Args() Guard() Body(a)))"}, {"f() -> case a of b -> c; d -> e end; g() -> if h -> i end.", "Func(Clausef(Args() Guard() Body(Case(a Clause(Args(b) Guard() Body(c)) Clause(Args(d) Guard() Body(e))))) Clauseg(Args() Guard() Body(If(Clause(Args() Guard(Body(h)) Body(i))))))"},
		// What does not go on so.
		{"f.", ""}, {"f().", ""}, {"f() ->.", ""}, {"f() -> a;.", ""}, {"f() -> a,.", ""}, {"f() -> , a.", ""}, {"f() a.", ""}, {"f() -> a b.", ""}, {"f() -> a -> b.", ""}, {"f() -> a; b.", ""}, {"f() -> a; () -> b.", ""}, {"f() -> a; f.", ""}, {"f() -> a;; f() -> b.", ""}, {"; f() -> a.", ""}, {"f() -> a; -b.", ""}, {"x y z.", ""}, {"a, b.", ""}, {"a + b.", ""},
		{"f(a,) -> b.", ""}, {"f(, a) -> b.", ""}, {"f(,) -> b.", ""}, {"f(a; b) -> c.", ""}, {"f(a b) -> c.", ""}, {"f(a -> b.", ""}, {"f a) -> b.", ""}, {"f(a)) -> b.", ""}, {"f(a} -> b.", ""}, {"f[a] -> b.", ""}, {"f(a => b) -> c.", ""}, {"f -> a.", ""}, {"f() = a.", ""}, {"f()(b) -> a.", ""}, {"f()#{} -> a.", ""}, {"f():g() -> a.", ""}, {"m:f() -> a.", ""},
		{"f() when -> a.", ""}, {"f() when a.", ""}, {"f() when a, -> b.", ""}, {"f() when a; -> b.", ""}, {"f() when , a -> b.", ""}, {"f() when ; a -> b.", ""}, {"f() when catch a -> b.", ""}, {"f() when a, catch b -> c.", ""}, {"f() when a; catch b -> c.", ""}, {"f() when a b -> c.", ""}, {"f() when a when b -> c.", ""}, {"when a -> b.", ""}, {"f() -> a when b.", ""}, {"f when a() -> b.", ""},
		{"F() -> a.", ""}, {"1() -> a.", ""}, {"1.5() -> a.", ""}, {"$a() -> b.", ""}, {"\"f\"() -> a.", ""}, {"if() -> a.", ""}, {"fun() -> a end.", ""}, {"end() -> a.", ""}, {"(f)() -> a.", ""}, {"(f()) -> a.", ""}, {"f() -> a; (f)() -> b.", ""}, {"f() -> a; F() -> b.", ""}, {"+f() -> a.", ""}, {"catch f() -> a.", ""}, {"f() -> end.", ""}, {"f() -> a == b == c.", ""}, {"f() -> {a.", ""},
		// No end, or nothing but it.
		{"f() -> a", ""}, {".", ""}, {"%c\n.", ""}, {"f() -> a.b", ""}, {"f", ""}, {"f() -> a;", ""}, {"-a", ""}, {"-", ""}, {"-spec f() -> a", ""},
	})
}

// 14.1 Form: -spec and -callback.
func TestSpec(t *testing.T) {
	holdTable(t, [][2]string{
		{"-spec f(a) -> b.", "Specspec(Clausef(Args(a) Guard() Body(b)))"}, {"-callback f() -> a.", "Speccallback(Clausef(Args() Guard() Body(a)))"}, {"- spec 'f g' ( a , B ) -> c.", "Specspec(Clause'f g'(Args(a B) Guard() Body(c)))"},
		{"-spec f(A :: a(), catch b) -> c | {d, e}.", "Specspec(Clausef(Args(Op::(A Call(a)) Uncatch(b)) Guard() Body(Op|(c Tuple(d e)))))"}, {"-spec f() -> catch a.", "Specspec(Clausef(Args() Guard() Body(Uncatch(a))))"}, {"-spec spec() -> a.", "Specspec(Clausespec(Args() Guard() Body(a)))"}, {"-callback spec() -> a :: b.", "Speccallback(Clausespec(Args() Guard() Body(Op::(a b))))"},
		{"-spec f(fun((a) -> b)) -> c.", ""}, {"-spec f(fun((a) -> b end)) -> c.", ""}, {"-spec f(fun(a) -> b end) -> c.", "Specspec(Clausef(Args(Fun(Clause(Args(a) Guard() Body(b)))) Guard() Body(c)))"},
		// Other names, and what does not go on so.
		{"-Spec f() -> a.", ""}, {"-'spec' f() -> a.", ""}, {"-?spec f() -> a.", ""}, {"-specs f() -> a.", ""}, {"-type f() -> a.", ""}, {"-if f() -> a.", ""}, {"+spec f() -> a.", ""}, {"spec f() -> a.", ""}, {"--spec f() -> a.", ""}, {"-spec ?M() -> a.", ""}, {"-spec F() -> a.", ""}, {"-spec if() -> a.", ""}, {"-spec m:f() -> a.", ""}, {"-spec (f() -> a).", ""}, {"-spec() -> a.", ""},
		{"-spec f() -> a, b.", ""}, {"-spec f() -> a; f() -> b.", ""}, {"-spec f() -> a; () -> b.", ""}, {"-spec f() -> a;.", ""}, {"-spec f() -> a,.", ""}, {"-spec f() -> a b.", ""}, {"-spec f() when a -> b.", ""}, {"-spec f() -> a when b.", ""}, {"-spec f() ->.", ""}, {"-spec f() -> -> a.", ""}, {"-spec f -> a.", ""}, {"-spec f(a,) -> b.", ""}, {"-spec f(a -> b.", ""}, {"-spec f)a( -> b.", ""}, {"-spec f() a.", ""}, {"-spec f() -> a +.", ""}, {"-spec f()() -> a.", ""}, {"-spec f/1 -> a.", ""},
		// These are attributes of that name.
		{"-spec f().", "Attrspec(Call(f))"}, {"-spec(f).", "Attrspec(Args(f))"}, {"-callback.", "Attrcallback()"}, {"-callback f/1.", "Attrcallback(Op/(f 1))"},
	})
}

// 14.1 Form: attributes.
func TestAttribute(t *testing.T) {
	holdTable(t, [][2]string{
		{"-module(x).", "Attrmodule(Args(x))"}, {"-else.", "Attrelse()"}, {"-if(X).", "Attrif(Args(X))"}, {"-if.", "Attrif()"}, {"-if X.", "Attrif(X)"}, {"-'a b'.", "Attr'a b'()"}, {"-'if'(X).", "Attr'if'(Args(X))"}, {"- \n module (x) .", "Attrmodule(Args(x))"},
		{"-a().", "Attra(Args())"}, {"-export([f/1, g/0]).", "Attrexport(Args(List(Op/(f 1) Op/(g 0))))"}, {"-record(r, {a, b = c :: d}).", "Attrrecord(Args(r Tuple(a Op::(Op=(b c) d))))"}, {"-define(M(A), catch A + 1).", "Attrdefine(Args(Call(M A) Uncatch(Op+(A 1))))"}, {"-a(b, c).", "Attra(Args(b c))"},
		{"-type t() :: a | b.", "Attrtype(Op::(Call(t) Op|(a b)))"}, {"-a b.", "Attra(b)"}, {"-a {b, c}.", "Attra(Tuple(b c))"}, {"-a [b | c].", "Attra(List|(b c))"}, {"-a -b.", "Attra(Un-(b))"}, {"-a not b = c.", "Attra(Op=(Unnot(b) c))"}, {"-a if b -> c end.", "Attra(If(Clause(Args() Guard(Body(b)) Body(c))))"}, {"-a \"b\".", `Attra("b")`}, {"-a m:f(b).", "Attra(Call(Remote(m f) b))"}, {"-if if a -> b end.", "Attrif(If(Clause(Args() Guard(Body(a)) Body(b))))"},
		// What does not go on so.
		{"-.", ""}, {"-(a).", ""}, {"-A(b).", ""}, {"-?M(a).", ""}, {"-1.", ""}, {"-1 .", ""}, {"-\"a\".", ""}, {"-end.", ""}, {"-fun.", ""}, {"-case(a).", ""}, {"-after.", ""}, {"+a(b).", ""}, {"a(b).", ""}, {"--a.", ""}, {"- -a.", ""}, {"*a.", ""},
		{"-a(b,).", ""}, {"-a(,b).", ""}, {"-a(b; c).", ""}, {"-a(b c).", ""}, {"-a(b.", ""}, {"-a b).", ""}, {"-a(b}.", ""}, {"-a(b) c.", ""}, {"-a(b) + c.", ""}, {"-a(b)(c).", ""}, {"-a(b)#{}.", ""}, {"-a(b):c.", ""}, {"-a((b).", ""}, {"-a() b.", ""}, {"-a(b) :: c.", ""},
		{"-a b, c.", ""}, {"-a b c.", ""}, {"-x y z.", ""}, {"-a catch b.", ""}, {"-a b -> c.", ""}, {"-a + .", ""}, {"-a b +.", ""}, {"-a b == c == d.", ""}, {"-a -> b.", ""}, {"-a :: b.", ""}, {"-a , b.", ""}, {"-a end.", ""}, {"-if a -> b end.", ""}, {"-if(a) -> b end.", ""}, {"-a when b.", ""}, {"-a; b.", ""},
	})
}

// Flags: Break of ( ) and of a clause, Blank of expressions of a body; no others.
func TestFlags(t *testing.T) {
	holdTable(t, [][2]string{
		{"f(\na) -> b.", "Func(Clausef(Args break(a) Guard() Body(b)))"}, {"f(\n) -> b.", "Func(Clausef(Args break() Guard() Body(b)))"}, {"f\n(a\n,\nb\n)\n-> c.", "Func(Clausef(Args(a b) Guard() Body(c)))"}, {"f(a,\n\nb) -> c.", "Func(Clausef(Args(a b) Guard() Body(c)))"}, {"f(\n\na) -> b.", "Func(Clausef(Args break(a) Guard() Body(b)))"}, {"f( \r\n a) -> b.", "Func(Clausef(Args break(a) Guard() Body(b)))"}, {"f( \r a) -> b.", "Func(Clausef(Args(a) Guard() Body(b)))"},
		{"f() ->\na.", "Func(Clausef break(Args() Guard() Body(a)))"}, {"f() ->\n\na.", "Func(Clausef break(Args() Guard() Body(a)))"}, {"f() -> a\n.", "Func(Clausef(Args() Guard() Body(a)))"}, {"f() -> a,\nb,\n\nc.", "Func(Clausef(Args() Guard() Body(a b Litc blank())))"}, {"f() when\na\n->b.", "Func(Clausef(Args() Guard(Body(a)) Body(b)))"}, {"f() when a,\n\nb;\n\nc -> d.", "Func(Clausef(Args() Guard(Body(a b) Body(c)) Body(d)))"},
		{"f() -> a;\n\nf(\nb) ->\nc,\n\n d;\n\n\ng() -> e.", "Func(Clausef(Args() Guard() Body(a)) Clausef break(Args break(b) Guard() Body(c Litd blank())) Clauseg(Args() Guard() Body(e)))"},
		{"-spec f(\na) ->\nb.", "Specspec(Clausef break(Args break(a) Guard() Body(b)))"}, {"-spec\nf(a,\n\nb)\n->c\n.", "Specspec(Clausef(Args(a b) Guard() Body(c)))"}, {"-spec f() -> {\na}.", "Specspec(Clausef(Args() Guard() Body(Tuple break(a))))"}, {"-spec f() ->\n\n{\na}.", "Specspec(Clausef break(Args() Guard() Body(Tuple break(a))))"},
		{"-a(\nb).", "Attra(Args break(b))"}, {"-\n\na\n\n(b,\n\nc\n)\n.", "Attra(Args(b c))"}, {"-a(\n\n).", "Attra(Args break())"}, {"-a([\nb]).", "Attra(Args(List break(b)))"}, {"-a\n\nb.", "Attra(b)"}, {"-a {\nb}.", "Attra(Tuple break(b))"},
	})
}

// Comments: all of them are taken where items begin and ahead of what closes, and at no other place.
func TestComments(t *testing.T) {
	holdTable(t, [][2]string{
		{"f(%c\na) -> b.", `Func(Clausef(Args(Lita note"%c"()) Guard() Body(b)))`}, {"f(\n%c\na, %d\n%e\nb) -> g.", `Func(Clausef(Args break(Lita note"%c"() Litb note"%d" note"%e"()) Guard() Body(g)))`}, {"f(%c\n) -> b.", `Func(Clausef(Args() tail"%c" Guard() Body(b)))`}, {"f(\n%c\n\n%d\n) -> b.", `Func(Clausef(Args break() tail"%c" tail"%d" Guard() Body(b)))`}, {"f(a %c\n%d\n) -> b.", `Func(Clausef(Args(a) tail"%c" tail"%d" Guard() Body(b)))`}, {"f(%c\na %d\n) -> b.", `Func(Clausef(Args(Lita note"%c"()) tail"%d" Guard() Body(b)))`}, {"f(a,\n\n%c\n\nb) -> c.", `Func(Clausef(Args(a Litb note"%c"()) Guard() Body(c)))`},
		{"f() -> %c\na.", `Func(Clausef(Args() Guard() Body(Lita note"%c"())))`}, {"f() ->\n%c\n\na,\n\n%d\nb, %e\n\nc.", `Func(Clausef break(Args() Guard() Body(Lita note"%c"() Litb blank note"%d"() Litc note"%e"())))`},
		{"f() -> a; %k\nf() -> b.", `Func(Clausef(Args() Guard() Body(a)) Clausef note"%k"(Args() Guard() Body(b)))`}, {"f() -> a;\n\n%k\n\n%l\n\ng() -> b; %m\nh(%n\n) -> %o\nc.", `Func(Clausef(Args() Guard() Body(a)) Clauseg note"%k" note"%l"(Args() Guard() Body(b)) Clauseh note"%m"(Args() tail"%n" Guard() Body(Litc note"%o"())))`},
		{"-spec f(%c\na %d\n) -> b.", `Specspec(Clausef(Args(Lita note"%c"()) tail"%d" Guard() Body(b)))`}, {"-spec f() -> {%c\n}.", `Specspec(Clausef(Args() Guard() Body(Tuple() tail"%c")))`}, {"-a(%c\nb, %d\nc %e\n).", `Attra(Args(Litb note"%c"() Litc note"%d"()) tail"%e")`}, {"-a(%c\n).", `Attra(Args() tail"%c")`}, {"-a {%c\nb}.", `Attra(Tuple(Litb note"%c"()))`},
		// At other places.
		{"%c\nf() -> a.", ""}, {"f %c\n() -> a.", ""}, {"f(a %c\n, b) -> c.", ""}, {"f(a, %c\n) -> b.", ""}, {"f() %c\n-> a.", ""}, {"f(X) %c\n-> a.", ""}, {"f() %c\nwhen a -> b.", ""}, {"f() when %c\na -> b.", ""}, {"f() when a %c\n-> b.", ""}, {"f() when a %c\n, b -> c.", ""}, {"f() when a, %c\nb -> c.", ""}, {"f() when a %c\n; b -> c.", ""}, {"f() when a; %c\nb -> c.", ""},
		{"f() -> a %c\n.", ""}, {"f() -> a %c\n, b.", ""}, {"f() -> a, b %c\n.", ""}, {"f() -> a %c\n; f() -> b.", ""}, {"f() -> a; f %c\n() -> b.", ""}, {"f() -> a; %c\nf %d\n() -> b.", ""}, {"f() -> a; f() -> b %c\n.", ""}, {"f() -> a + %c\nb.", ""}, {"f() -> a %c\n+ b.", ""}, {"f() -> a; %c\n.", ""},
		{"%c\n-spec f() -> a.", ""}, {"- %c\nspec f() -> a.", ""}, {"-spec %c\nf() -> a.", ""}, {"-spec f %c\n() -> a.", ""}, {"-spec f() %c\n-> a.", ""}, {"-spec f() -> %c\na.", ""}, {"-spec f() -> a %c\n.", ""}, {"-spec f(a %c\n, b) -> c.", ""},
		{"%c\n-a.", ""}, {"- %c\na.", ""}, {"-a %c\n.", ""}, {"- %c\nif.", ""}, {"-if %c\n.", ""}, {"-a %c\n(b).", ""}, {"-a(b) %c\n.", ""}, {"-a(b %c\n, c).", ""}, {"-a(b, %c\n).", ""}, {"-a %c\nb.", ""}, {"-a b %c\n.", ""}, {"-a b + %c\nc.", ""},
	})
}

// 14.1 Form: any item, those of no tokens too, with its Blank.
func TestItems(t *testing.T) {
	s := "%n\n\nf() -> a. -b. c"
	l := tokens(t, s)
	for _, x := range []struct {
		x    api.Item
		want string
	}{
		{api.Item{From: 0, To: 1, Note: true}, `Note"%n"()`}, {api.Item{From: 0, To: 1, Note: true, Blank: true}, `Note"%n" blank()`}, {api.Item{From: 1, To: 7}, "Func(Clausef(Args() Guard() Body(a)))"}, {api.Item{From: 1, To: 7, Blank: true}, "Func blank(Clausef(Args() Guard() Body(a)))"}, {api.Item{From: 7, To: 10, Blank: true}, "Attrb blank()"}, {api.Item{From: 10, To: 11, Blank: true}, `Raw"c" blank()`},
		{api.Item{From: 0, To: 1}, `Raw"%n"()`}, {api.Item{From: 0, To: 7}, `Raw"%n\n\nf() -> a."()`}, {api.Item{From: 1, To: 6}, `Raw"f() -> a"()`}, {api.Item{From: 1, To: 10, Blank: true}, `Raw"f() -> a. -b." blank()`}, {api.Item{From: 0, To: 11}, `Raw"%n\n\nf() -> a. -b. c"()`}, {api.Item{From: 6, To: 7}, `Raw"."()`}, {api.Item{From: 8, To: 10}, `Raw"b."()`}, {api.Item{From: 1, To: 7, Note: true}, `Note"f() -> a."()`},
		{api.Item{}, `Raw""()`}, {api.Item{Note: true, Blank: true}, `Note"" blank()`}, {api.Item{From: 7, To: 7, Blank: true}, `Raw"" blank()`}, {api.Item{From: 11, To: 11}, `Raw""()`}, {api.Item{From: 7, To: 1}, `Raw""()`}, {api.Item{From: -1, To: 7}, `Raw""()`}, {api.Item{From: 7, To: 12, Note: true}, `Note""()`}, {api.Item{From: 7, To: 12}, `Raw""()`}, {api.Item{From: math.MinInt, To: math.MaxInt}, `Raw""()`}, {api.Item{From: math.MaxInt, To: math.MinInt}, `Raw""()`}, {api.Item{From: 0, To: math.MinInt}, `Raw""()`}, {api.Item{From: math.MaxInt, To: math.MaxInt, Note: true}, `Note""()`},
	} {
		if n := Form(s, l, x.x); spell(n) != x.want {
			t.Errorf("%v: %s, want %s", x.x, spell(n), x.want)
		}
	}
	for _, x := range []api.Item{{}, {To: 1}, {To: 1, Note: true}, {From: -1}} {
		want := api.Node{Kind: api.NRaw}
		if x.Note {
			want.Kind = api.NNote
		}
		if n := Form("", nil, x); !tree.Same(n, want) {
			t.Error(x, spell(n))
		}
	}
}

// 14.2 Forms: all items, in their order; the first one's Blank is false.
func TestForms(t *testing.T) {
	for _, x := range []struct {
		s    string
		want []string
	}{
		{"", nil}, {" \n\n\t", nil}, {"\n\n\n%a", []string{`Note"%a"()`}}, {"\n\n\n-a.", []string{"Attra()"}}, {"\n\n\na", []string{`Raw"a"()`}}, {".\n\n.", []string{`Raw"."()`, `Raw"." blank()`}},
		{"%a\nf() -> ok. %b", []string{`Note"%a"()`, "Func(Clausef(Args() Guard() Body(ok)))", `Note"%b"()`}},
		{"-a.\n\n-b.\n-c.\n\n\n\n%d\n\n x y.\nf()->\na.z", []string{"Attra()", "Attrb blank()", "Attrc()", `Note"%d" blank()`, `Raw"x y." blank()`, `Raw"f()->\na.z"()`}},
		{"-spec f() -> a.\nf() -> a;%b\nf() -> b.\n\n-a(%c\n).%d \n%e\n-b", []string{"Specspec(Clausef(Args() Guard() Body(a)))", `Func(Clausef(Args() Guard() Body(a)) Clausef note"%b"(Args() Guard() Body(b)))`, `Attra blank(Args() tail"%c")`, `Note"%d"()`, `Note"%e"()`, `Raw"-b"()`}},
		{"-a. -a. -a.\n\n-a.", []string{"Attra()", "Attra()", "Attra()", "Attra blank()"}},
	} {
		l := tokens(t, x.s)
		items := split.Split(x.s, l)
		var got []string
		for k, n := range Forms(x.s, l) {
			got = append(got, spell(n))
			if one := Form(x.s, l, items[k]); !tree.Same(n, one) {
				t.Errorf("%q: %s, alone %s", x.s, spell(n), spell(one))
			}
		}
		if !slices.Equal(got, x.want) {
			t.Errorf("%q: %q, want %q", x.s, got, x.want)
		}
	}
	if l := Forms("", nil); len(l) != 0 {
		t.Error(l)
	}
	if l := Forms("", []api.Token{}); len(l) != 0 {
		t.Error(l)
	}
}

// laid are the tokens of those kinds and texts, one behind the other in a text with those blanks ahead of each, and a point at the end.
func laid(l []api.Token, blanks ...string) (string, []api.Token) {
	var b strings.Builder
	l = append(slices.Clip(slices.Clone(l)), api.Token{Kind: api.TDot, Text: "."})
	for k := range l {
		if k > 0 && l[k-1].Kind == api.TComment {
			b.WriteString("\n")
		}
		b.WriteString(blanks[k%len(blanks)])
		l[k].At = b.Len()
		b.WriteString(l[k].Text)
	}
	return b.String(), l
}

// hold holds what the chapter's words, read anew, say of a form of those tokens, and that there is one derivation at most; it tells whether there is one.
func hold(t *testing.T, l []api.Token, blanks ...string) bool {
	t.Helper()
	s, l := laid(l, blanks...)
	x := api.Item{From: 0, To: len(l), Blank: len(l)%2 > 0}
	want, many := reading{s, l}.form(x)
	if many > 1 {
		t.Errorf("%q: %d derivations", s, many)
	}
	if n := Form(s, l, x); !tree.Same(n, want) {
		t.Errorf("%q: %s, want %s", s, spell(n), spell(want))
	}
	if many > 0 {
		holdKept(t, want, l)
	}
	return many > 0
}

// holdKept holds that all comments of l are in n, and its literals among those of l, in their order.
func holdKept(t *testing.T, n api.Node, l []api.Token) {
	t.Helper()
	var notes []string
	lits := tree.Lits(n)
	for _, x := range l {
		if x.Kind == api.TComment {
			notes = append(notes, x.Text)
		}
		if len(lits) > 0 && lits[0] == x.Text {
			lits = lits[1:]
		}
	}
	if !slices.Equal(tree.Notes(n), notes) || len(lits) > 0 {
		t.Errorf("%s: comments %q, literals %q", spell(n), notes, lits)
	}
}

// some are tokens, one of each sort that the chapter's words tell apart.
func some() []api.Token {
	l := []api.Token{
		{Kind: api.TAtom, Text: "f"}, {Kind: api.TAtom, Text: "spec"}, {Kind: api.TAtom, Text: "callback"}, {Kind: api.TAtom, Text: "'spec'"}, {Kind: api.TVar, Text: "X"}, {Kind: api.TInt, Text: "1"}, {Kind: api.TMacro, Text: "?M"},
		{Kind: api.TComment, Text: "%c"}, {Kind: api.TDot, Text: "."}, {Kind: api.TAtom, Text: "'if'"}, {Kind: api.TString, Text: `"if"`},
	}
	for _, x := range strings.Fields("( ) -> , ; - + = :: == : { } #") {
		l = append(l, api.Token{Kind: api.TSign, Text: x})
	}
	for _, x := range strings.Fields("when if catch end of not begin fun") {
		l = append(l, api.Token{Kind: api.TWord, Text: x})
	}
	return l
}

// 14.1 Form: all forms of a few tokens.
func TestAll(t *testing.T) {
	found := 0
	var all func(l []api.Token, of []api.Token, most int)
	all = func(l []api.Token, of []api.Token, most int) {
		if hold(t, l, " ") {
			found++
		}
		if len(l) == most {
			return
		}
		for _, x := range of {
			all(append(slices.Clip(l), x), of, most)
		}
	}
	all(nil, some(), 3)
	few := slices.DeleteFunc(some(), func(x api.Token) bool {
		return !slices.Contains(strings.Fields("f spec ?M %c ( ) -> , ; - when if"), x.Text)
	})
	all(nil, few, 5)
	if found < 100 {
		t.Error(found)
	}
}

// forms are texts of forms of all sorts, without their points.
func forms() []string {
	return []string{
		"f() -> a", "f(a, b) when c, d; e -> g, h; %c\n ?M(%d\n) -> i", "f(%a\n) -> %b\n c, %d\n e; %g\n f(h %i\n) when j -> k", "f(X = {1}) -> case X of a -> b; c -> d end; g() -> begin fun f/1 end",
		"-spec f(a, b) -> c", "-callback f(%c\n a %d\n) -> {b, c}", "-spec spec() -> catch fun f/1",
		"-a", "-if", "-if(X)", "-a(b, %c\n c %d\n)", "-type t() :: a | {b, c}", "-spec f()", "-spec(f, a)", "-a b = - 1",
		"a + b", "f() -> {a; b}", "-spec f() -> a; g() -> b",
	}
}

// 14.1 Form: forms of all sorts, with each token left out, with each one ahead of each place and in place of each, with each two changed about, and cut anywhere; with newlines between.
func TestNear(t *testing.T) {
	found := 0
	try := func(l []api.Token) {
		for _, blanks := range [][]string{{" "}, {"\n"}, {" ", "\n\n", "\n", " ", " ", "\n", "\n\n"}} {
			if hold(t, l, blanks...) {
				found++
			}
		}
	}
	for _, s := range forms() {
		l := tokens(t, s)
		try(l)
		for k := range len(l) + 1 {
			try(l[:k])
			try(l[k:])
			for _, x := range some() {
				try(slices.Insert(slices.Clone(l), k, x))
				if k < len(l) {
					try(slices.Replace(slices.Clone(l), k, k+1, x))
				}
			}
			if k < len(l) {
				try(slices.Delete(slices.Clone(l), k, k+1))
			}
			if k > 0 && k < len(l) {
				other := slices.Clone(l)
				other[k-1], other[k] = other[k], other[k-1]
				try(other)
			}
		}
	}
	if found < 1000 {
		t.Error(found)
	}
}

// 14.1 Form: forms of all sorts, with several things changed by chance, and pieces of one in the other.
func TestChance(t *testing.T) {
	r := rand.New(rand.NewSource(14))
	some, found := some(), 0
	var all [][]api.Token
	for _, s := range forms() {
		all = append(all, tokens(t, s))
	}
	for range 60000 {
		one, other := all[r.Intn(len(all))], all[r.Intn(len(all))]
		from, at := r.Intn(len(one)+1), r.Intn(len(other)+1)
		l := slices.Concat(one[:from], other[at:])
		for range r.Intn(3) {
			k := r.Intn(len(l) + 1)
			l = slices.Insert(l, k, some[r.Intn(len(some))])
		}
		if len(l) > 24 {
			continue
		}
		if hold(t, l, []string{" ", "\n", "\n\n"}[r.Intn(3)], " ", "\n") {
			found++
		}
	}
	if found < 1000 {
		t.Error(found)
	}
}

// Great forms, and many of them; they do not stand in the stack of calls, and each token is gone over a few times at most.
func TestGreat(t *testing.T) {
	defer debug.SetMaxStack(debug.SetMaxStack(1 << 20))
	const many = 5000
	again := func(s string) string { return strings.Repeat(s, many) }
	for _, x := range []struct {
		s           string
		kind, count int
	}{
		{"f(" + again("{") + again("}") + ") -> a.", api.NFunc, 6 + many}, {"-a(" + again("[") + again("]") + ").", api.NAttr, 2 + many}, {"-a " + again("{") + again("}") + ".", api.NAttr, 1 + many}, {"-spec f() -> " + again("{") + again("}") + ".", api.NSpec, 5 + many}, {"f() -> " + again("- ") + "a.", api.NFunc, 6 + many}, {"f() when " + again("{") + again("}") + " -> a.", api.NFunc, 7 + many},
		{again("f()->a;") + "f() -> a.", api.NFunc, 1 + 5*(many+1)}, {again("f()->a; %c\n") + "f() -> a.", api.NFunc, 1 + 5*(many+1)}, {"f() when " + again("a;") + "a -> b.", api.NFunc, 6 + 2*(many+1)}, {"f() when " + again("a,") + "a -> b.", api.NFunc, 7 + many + 1}, {"f(" + again("a, %c\n") + "a) -> b.", api.NFunc, 6 + many + 1}, {"f(" + again("%c\n") + ") -> b.", api.NFunc, 6}, {"f() -> " + again("a, %c\n") + "b.", api.NFunc, 6 + many}, {"-a(" + again("b, ") + "c).", api.NAttr, 3 + many},
		{again("f()->a;") + ".", api.NRaw, 1}, {again("-spec f"), api.NRaw, 1}, {"f(" + again("(") + again(")") + ") -> b.", api.NRaw, 1}, {"-spec f(" + again("{") + again("}") + ").", api.NAttr, 3 + many}, {"f() when " + again("a; %c\n") + " -> b.", api.NRaw, 1}, {"f(a " + again("%c\n") + ", b) -> c.", api.NRaw, 1},
	} {
		l := tokens(t, x.s)
		n := Forms(x.s, l)
		if len(n) != 1 || n[0].Kind != x.kind || tree.Count(n[0]) != x.count || x.kind == api.NRaw && n[0].Text != strings.TrimSpace(x.s) {
			t.Error(x.s[:20], len(n), n[0].Kind, tree.Count(n[0]), x.count)
		}
	}
	for _, x := range []struct {
		s    string
		kind int
	}{{"-a. ", api.NAttr}, {"%c\n", api.NNote}, {"x y. ", api.NRaw}, {"f()->a. ", api.NFunc}, {". ", api.NRaw}} {
		s := again(x.s)
		list := Forms(s, tokens(t, s))
		if len(list) != many || slices.ContainsFunc(list, func(n api.Node) bool { return n.Kind != x.kind }) {
			t.Error(x, len(list))
		}
	}
}

// memory is where the lists of nodes, and the bytes of their texts, stand.
type memory struct {
	texts map[*byte]bool
	lists map[any]bool
}

func (m memory) add(t *testing.T, n *api.Node) {
	for _, x := range slices.Concat([]string{n.Text}, n.Notes, n.Tail) {
		m.texts[unsafe.StringData(x)] = x != ""
	}
	for _, p := range []any{unsafe.SliceData(n.L), unsafe.SliceData(n.Notes), unsafe.SliceData(n.Tail)} {
		if reflect.ValueOf(p).IsNil() {
			continue
		}
		if m.lists[p] {
			t.Error("shared", spell(*n))
		}
		m.lists[p] = true
	}
	for k := range n.L {
		m.add(t, &n.L[k])
	}
}

// Rules 2 and 3: what is handed in is not changed, nor a part of what is answered; the same arguments have the same answers.
func TestOwn(t *testing.T) {
	s := strings.Clone("%n\n\n-spec f(%a\na) -> {b}.\n" + strings.Join(forms(), ".\n\n") + ". x y. z")
	l := tokens(t, s)
	kept := slices.Clone(l)
	one, two := Forms(s, l), Forms(s, l)
	if !slices.Equal(l, kept) || !tree.Same(api.Node{L: one}, api.Node{L: two}) {
		t.Error("changed")
	}
	m := memory{map[*byte]bool{}, map[any]bool{}}
	for k, x := range split.Split(s, l) {
		alone := Form(s, l, x)
		for _, n := range []*api.Node{&one[k], &two[k], &alone} {
			m.add(t, n)
		}
	}
	for k := range len(s) {
		if m.texts[unsafe.StringData(s[k:])] {
			t.Errorf("a piece of the text: %q", s[k:])
		}
	}
	for _, x := range l {
		if m.texts[unsafe.StringData(x.Text)] {
			t.Error("a piece of a token", x)
		}
	}
}
