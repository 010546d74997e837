package parens

import (
	"math"
	"math/rand"
	"reflect"
	"slices"
	"strconv"
	"strings"
	"testing"

	"galley/api"
	"galley/ops"
	"galley/parse"
	"galley/scan"
	"galley/tree"
)

// The chapter's words, from which the calls are told anew.
const (
	kindNames  = "NLit NCall NRemote NTuple NList NBin NSeg NMap NMapUp NRec NRecUp NField NUn NOp NComp NRef NFun NCase NIf NReceive NBegin NClause NArgs NGuard NBody NAttr NSpec NFunc NRaw NNote"
	bareNames  = "NCall NRemote NMap NMapUp NRec NRecUp NField"
	huggers    = "= :: => :="
	hugNames   = "NCall NTuple NList NBin NMap NMapUp NRec NRecUp NComp NFun NCase NIf NReceive NBegin"
	operators  = ":: | = ! orelse andalso == /= =< < >= > =:= =/= ++ -- + - bor bxor bsl bsr or xor * / div rem band and"
	prefixes   = "+ - not bnot"
	otherTexts = "catch => := <- <= || -> ( ) { # , ; : . case of end when Catch catc catch! not- plus"
)

// numbers are the kinds of a row of names, by api's order.
func numbers(names string) map[int]bool {
	all := strings.Fields(kindNames)
	m := map[int]bool{}
	for _, s := range strings.Fields(names) {
		m[slices.Index(all, s)+1] = true
	}
	return m
}

// levels are numbers around all levels, and the ends of int.
func levels() []int {
	l := []int{math.MinInt, math.MinInt + 1, math.MinInt32 - 1, math.MinInt32, math.MaxInt32, math.MaxInt32 + 1, math.MaxInt - 1, math.MaxInt}
	for k := -70; k <= 70; k++ {
		l = append(l, k)
	}
	return l
}

// anyKinds are all kinds, and numbers that are none: those that are kinds in some of their bits, too.
func anyKinds() []int {
	l := levels()
	for k := 0; k <= 31; k++ {
		for _, far := range []int{64, 128, 256, 1 << 16, 1 << 31, 1 << 32, 1 << 62, math.MinInt} {
			l = append(l, far+k, -far+k, -k-far)
		}
	}
	return l
}

// texts are all texts that count for a call, and those of up to one byte.
func texts() []string {
	l := strings.Fields(operators + " " + prefixes + " " + otherTexts)
	l = append(l, "", " catch", "catch ", "'catch'", "CATCH")
	for c := range 256 {
		l = append(l, string([]byte{byte(c)}))
	}
	return l
}

// level is 18.1's Level, read anew.
func level(n api.Node) int {
	if n.Kind == api.NUn && n.Text == "catch" {
		return 0
	}
	if n.Kind == api.NUn {
		return 10
	}
	if n.Kind == api.NOp {
		return ops.Binary(n.Text)
	}
	return 11
}

// 18.1 Level: written out.
func TestLevel(t *testing.T) {
	for s, want := range map[string]int{
		"catch": 0, "-": 10, "+": 10, "not": 10, "bnot": 10, "": 10, "=": 10, "=>": 10, "'catch'": 10, "catch ": 10, "Catch": 10, "\xff": 10,
	} {
		if got := Level(api.Node{Kind: api.NUn, Text: s}); got != want {
			t.Errorf("prefix %q: %d, not %d", s, got, want)
		}
	}
	for s, want := range map[string]int{
		"::": 1, "|": 2, "=": 3, "!": 3, "orelse": 4, "andalso": 5,
		"==": 6, "/=": 6, "=<": 6, "<": 6, ">=": 6, ">": 6, "=:=": 6, "=/=": 6,
		"++": 7, "--": 7,
		"+": 8, "-": 8, "bor": 8, "bxor": 8, "bsl": 8, "bsr": 8, "or": 8, "xor": 8,
		"*": 9, "/": 9, "div": 9, "rem": 9, "band": 9, "and": 9,
		"=>": 0, ":=": 0, "<-": 0, "<=": 0, "||": 0, "->": 0, "not": 0, "bnot": 0, "catch": 0, "": 0, "+ ": 0, "\x00": 0, "plus": 0,
	} {
		if got := Level(api.Node{Kind: api.NOp, Text: s}); got != want {
			t.Errorf("operator %q: %d, not %d", s, got, want)
		}
	}
	for _, s := range []string{"a", "catch", "+", "=>", ""} {
		for _, kind := range []int{api.NLit, api.NCall, api.NComp, api.NBegin, api.NNote, 0, -1, 31, 64 + api.NOp, 64 + api.NUn, math.MinInt, math.MaxInt} {
			if got := Level(api.Node{Kind: kind, Text: s}); got != 11 {
				t.Errorf("kind %d %q: %d, not 11", kind, s, got)
			}
		}
	}
}

// 18.1 Level, Need: all kinds and texts, and all levels, those that are none too.
func TestNeedOfAll(t *testing.T) {
	all := levels()
	for _, kind := range anyKinds() {
		for _, s := range texts() {
			n := api.Node{Kind: kind, Text: s}
			own := level(n)
			if got := Level(n); got != own {
				t.Fatalf("kind %d %q: %d, not %d", kind, s, got, own)
			}
			if kind != api.NUn && kind != api.NOp && len(s) == 1 {
				continue // told by the first ones
			}
			for _, k := range all {
				if got, want := Need(n, k), own < k; got != want {
					t.Fatalf("kind %d %q at %d: %v", kind, s, k, got)
				}
			}
		}
	}
}

// 18.1 Need: the chapter's example, and the edges of each level.
func TestNeed(t *testing.T) {
	for _, x := range []struct {
		kind  int
		text  string
		level int
		want  bool
	}{
		{api.NOp, "+", 9, true}, {api.NOp, "+", 8, false}, {api.NOp, "+", 7, false}, {api.NOp, "+", 10, true},
		{api.NOp, "::", 1, false}, {api.NOp, "::", 2, true}, {api.NOp, "=", 3, false}, {api.NOp, "=", 4, true},
		{api.NOp, "=>", 0, false}, {api.NOp, "=>", 1, true}, {api.NOp, "<-", 1, true}, {api.NOp, "=>", -1, false},
		{api.NUn, "catch", 0, false}, {api.NUn, "catch", 1, true}, {api.NUn, "catch", -1, false},
		{api.NUn, "-", 10, false}, {api.NUn, "-", 11, true}, {api.NUn, "not", 10, false},
		{api.NLit, "a", 11, false}, {api.NLit, "a", 12, true}, {api.NCall, "", 11, false}, {api.NCall, "", 12, true},
		{api.NLit, "a", math.MaxInt, true}, {api.NLit, "a", math.MinInt, false}, {api.NUn, "catch", math.MinInt, false}, {api.NUn, "catch", math.MaxInt, true},
	} {
		if got := Need(api.Node{Kind: x.kind, Text: x.text}, x.level); got != x.want {
			t.Errorf("kind %d %q at %d: %v", x.kind, x.text, x.level, got)
		}
	}
}

// 18.1 Bare: literals.
func TestBareLiterals(t *testing.T) {
	for s, want := range map[string]bool{
		"a": true, "X": true, "_": true, "_1": true, "?M": true, "??M": true, "'a b'": true, "a1": true, "é": true, "": true,
		"'1'": true, `'$'`: true, `'"'`: true, `'a$'`: true, `'a"b'`: true, "'": true, "a$": true, `a"`: true, "?1": true,
		"0": false, "1": false, "9": false, "1.5": false, "16#FF": false, "1a": false, "0x": false,
		"$a": false, "$": false, `$\n`: false, "$1": false, "$$": false, `$"`: false,
		`"a"`: false, `""`: false, `"`: false, `"1"`: false,
		"/": true, ":": true, "#": true, "!": true, "%": true, "-1": true, " 1": true, ".5": true,
		"٣": true, "１": true, "\xb1": true, "\x00": true,
	} {
		if got := Bare(api.Node{Kind: api.NLit, Text: s}); got != want {
			t.Errorf("%q: %v", s, got)
		}
	}
	for c := range 1 << 16 {
		s := string([]byte{byte(c >> 8), byte(c)})
		if got, want := Bare(api.Node{Kind: api.NLit, Text: s}), !strings.ContainsAny(s[:1], `0123456789$"`); got != want {
			t.Errorf("%q: %v", s, got)
		}
	}
}

// 18.1 Bare, 18.2 Hugs: all kinds, numbers that are none, and each operator.
func TestKinds(t *testing.T) {
	bare, hugs := numbers(bareNames), numbers(hugNames)
	if len(bare) != 7 || len(hugs) != 14 || bare[0] || hugs[0] {
		t.Fatal("the chapter's names", bare, hugs)
	}
	for _, kind := range anyKinds() {
		for _, s := range texts() {
			n := api.Node{Kind: kind, Text: s}
			if got := Bare(n); kind != api.NLit && got != bare[kind] {
				t.Fatalf("kind %d %q: bare %v", kind, s, got)
			}
			for _, op := range []string{"=", "::", "=>", ":="} {
				if got := Hugs(op, n); got != hugs[kind] {
					t.Fatalf("kind %d %q behind %s: hugs %v", kind, s, op, got)
				}
			}
		}
		for _, op := range append(texts(), ":", "= ", " =", "==", ":::", "==>", "=:=", "=<", ">=", "=\x00") {
			n := api.Node{Kind: kind, Text: "="}
			if got, want := Hugs(op, n), hugs[kind] && slices.Contains(strings.Fields(huggers), op); got != want {
				t.Fatalf("kind %d behind %q: hugs %v", kind, op, got)
			}
		}
	}
}

// 18.1, 18.2: nothing but a node's kind and text is asked, and nothing of it is changed.
func TestOtherParts(t *testing.T) {
	in := []api.Node{{Kind: api.NOp, Text: "="}, {Kind: api.NUn, Text: "catch"}, {Kind: api.NLit, Text: "1"}, {Kind: api.NList}}
	for kind := 0; kind <= 31; kind++ {
		for _, s := range []string{"", "a", "1", "+", "catch", "="} {
			n := api.Node{Kind: kind, Text: s}
			full := api.Node{Kind: kind, Text: s, L: slices.Clone(in), Break: true, Blank: true, Notes: []string{"%a", ""}, Tail: []string{"%b"}}
			want := api.Node{Kind: kind, Text: s, L: slices.Clone(in), Break: true, Blank: true, Notes: []string{"%a", ""}, Tail: []string{"%b"}}
			empty := api.Node{Kind: kind, Text: s, L: []api.Node{}, Notes: []string{}, Tail: []string{}}
			for range 2 {
				for _, x := range []api.Node{full, empty} {
					if Level(x) != Level(n) || Need(x, 9) != Need(n, 9) || Bare(x) != Bare(n) || Hugs("=", x) != Hugs("=", n) || Hugs(s, x) != Hugs(s, n) {
						t.Errorf("kind %d %q: other parts count", kind, s)
					}
				}
			}
			if !reflect.DeepEqual(full, want) {
				t.Errorf("kind %d %q: changed", kind, s)
			}
		}
	}
}

// T1: great texts, and trees deeper than calls can go.
func TestGreat(t *testing.T) {
	great := strings.Repeat("+", 1<<24)
	deep := api.Node{Kind: api.NLit, Text: "a"}
	for range 1 << 20 {
		deep = api.Node{Kind: api.NOp, Text: "+", L: []api.Node{deep}}
	}
	for kind := -1; kind <= 64; kind++ {
		n := api.Node{Kind: kind, Text: great}
		if got, want := Level(n), level(n); got != want || Hugs(great, n) {
			t.Errorf("kind %d: %d, not %d", kind, got, want)
		}
		if kind == api.NLit && !Bare(n) {
			t.Error("bare")
		}
	}
	if Level(deep) != 8 || !Need(deep, 9) || Need(deep, 8) || Bare(deep) || Hugs("=", deep) {
		t.Error("deep")
	}
}

// read is the tree of the expression s, all of it; false, if there is none.
func read(s string) (api.Node, bool) {
	l, e := scan.Scan(s)
	if e != api.OK {
		return api.Node{}, false
	}
	n, at, e := parse.Expr(s, l, 0, len(l), 0)
	return n, e == api.OK && at == len(l)
}

// operands are expressions of each kind, none of which has more parentheses than it must have.
func operands() []string {
	l := []string{
		"a", "X", "'a b'", "?M", "1", "1.5", "16#FF", "$a", `"a"`, "f(a)", "m:f", "m:f(a)", "{a}", "[a]", "[a | b]", "<<a>>", "<<a:8>>",
		"#{}", "X#{a => b}", "#r{}", "X#r{}", "X#r.f", "[a || b]", "fun f/1", "fun () -> a end",
		"case a of b -> c end", "if a -> b end", "receive a -> b end", "begin a end",
		"catch a", "catch catch a", "catch a = b", "- a", "+ a", "not a", "bnot a", "- - a", "- not a", "- 1", "not f(a)",
	}
	for _, op := range strings.Fields(operators) {
		l = append(l, "a "+op+" b")
	}
	return append(l, "a + b * c", "a * b + c", "a = b = c", "a = b :: c", "- a * b", "a ++ - b", "a + b == c orelse d")
}

// held is s, in parentheses if need is true.
func held(s string, need bool) string {
	if need {
		return "(" + s + ")"
	}
	return s
}

// holdBack holds that s is read as want, or, if same is false, that it is not.
func holdBack(t *testing.T, s string, want api.Node, same bool) {
	t.Helper()
	n, ok := read(s)
	if got := ok && tree.Same(n, want); got != same {
		t.Errorf("%q: read as the tree is %v", s, got)
	}
}

// T2, 18.1 Need: with parentheses where they are needed each operator's operands are read as they were; without one of those that are needed, not.
func TestOperandsMeanTheSame(t *testing.T) {
	trees := map[string]api.Node{}
	for _, s := range operands() {
		n, ok := read(s)
		if !ok {
			t.Fatalf("%q is no expression", s)
		}
		trees[s] = n
	}
	for _, op := range strings.Fields(operators) {
		for _, left := range operands() {
			x := trees[left]
			needLeft := Need(x, ops.Left(op))
			for _, right := range operands() {
				y := trees[right]
				needRight := Need(y, ops.Right(op))
				want := api.Node{Kind: api.NOp, Text: op, L: []api.Node{x, y}}
				holdBack(t, held(left, needLeft)+" "+op+" "+held(right, needRight), want, true)
				if needLeft {
					holdBack(t, left+" "+op+" "+held(right, needRight), want, false)
				}
				if needRight {
					holdBack(t, held(left, needLeft)+" "+op+" "+right, want, false)
				}
			}
		}
	}
}

// T2, 18.1 Need: likewise of what stands ahead of its operand, at 10 and, of catch, at 0.
func TestPrefixesMeanTheSame(t *testing.T) {
	for _, right := range operands() {
		y, ok := read(right)
		if !ok {
			t.Fatalf("%q is no expression", right)
		}
		for _, op := range strings.Fields(prefixes) {
			need := Need(y, 10)
			want := api.Node{Kind: api.NUn, Text: op, L: []api.Node{y}}
			holdBack(t, op+" "+held(right, need), want, true)
			if need {
				holdBack(t, op+" "+right, want, false)
			}
		}
		if Need(y, 0) {
			t.Errorf("%q needs parentheses behind catch", right)
		}
		holdBack(t, "catch "+right, api.Node{Kind: api.NUn, Text: "catch", L: []api.Node{y}}, true)
	}
}

// T2, 18.1 Bare: what is Bare may be followed as it is; what is not, only in parentheses.
func TestFollowedMeansTheSame(t *testing.T) {
	for _, s := range operands() {
		x, ok := read(s)
		if !ok {
			t.Fatalf("%q is no expression", s)
		}
		bare := Bare(x)
		for _, f := range []struct {
			behind string
			node   api.Node
		}{
			{"()", api.Node{Kind: api.NCall}},
			{"#{}", api.Node{Kind: api.NMapUp}},
			{"#r{}", api.Node{Kind: api.NRecUp, Text: "r"}},
			{"#r.f", api.Node{Kind: api.NField, Text: "r.f"}},
		} {
			f.node.L = []api.Node{x}
			holdBack(t, held(s, !bare)+f.behind, f.node, true)
			if !bare {
				holdBack(t, s+f.behind, f.node, false)
			}
		}
	}
}

// grown is a tree by chance, with up to deep levels below it.
func grown(r *rand.Rand, deep int) api.Node {
	pick := func(s string) string {
		l := strings.Fields(s)
		return l[r.Intn(len(l))]
	}
	if deep == 0 {
		return api.Node{Kind: api.NLit, Text: pick("a X ?M 1 1.5 $a \"a\" 'a'")}
	}
	some := func(n int) []api.Node {
		l := make([]api.Node, n)
		for k := range l {
			l[k] = grown(r, r.Intn(deep))
		}
		return l
	}
	switch r.Intn(9) {
	case 0:
		return api.Node{Kind: api.NUn, Text: pick(prefixes), L: some(1)}
	case 1:
		return api.Node{Kind: api.NUn, Text: "catch", L: some(1)}
	case 2:
		return api.Node{Kind: api.NCall, L: some(1 + r.Intn(3))}
	case 3:
		return api.Node{Kind: api.NTuple, L: some(r.Intn(3))}
	case 4:
		pair := api.Node{Kind: api.NOp, Text: pick("=> :="), L: some(2)}
		return api.Node{Kind: api.NMapUp, L: append(some(1), pair)}
	case 5:
		return api.Node{Kind: api.NField, Text: "r.f", L: some(1)}
	default:
		return api.Node{Kind: api.NOp, Text: pick(operators), L: some(2)}
	}
}

// row is l with commas between, each at that level.
func row(l []api.Node, level int) string {
	var all []string
	for _, x := range l {
		all = append(all, at(x, level))
	}
	return strings.Join(all, ", ")
}

// at is n where an expression of that level stands.
func at(n api.Node, level int) string {
	return held(written(n), Need(n, level))
}

// written is n as a text, by what the calls answer.
func written(n api.Node) string {
	first := func() string { return held(written(n.L[0]), !Bare(n.L[0])) }
	switch n.Kind {
	case api.NUn:
		if n.Text == "catch" {
			return "catch " + at(n.L[0], 0)
		}
		return n.Text + " " + at(n.L[0], 10)
	case api.NOp:
		if n.Text == "=>" || n.Text == ":=" {
			return at(n.L[0], 1) + " " + n.Text + " " + at(n.L[1], 1)
		}
		return at(n.L[0], ops.Left(n.Text)) + " " + n.Text + " " + at(n.L[1], ops.Right(n.Text))
	case api.NCall:
		return first() + "(" + row(n.L[1:], 0) + ")"
	case api.NTuple:
		return "{" + row(n.L, 0) + "}"
	case api.NMapUp:
		return first() + "#{" + written(n.L[1]) + "}"
	case api.NField:
		return first() + "#" + n.Text
	}
	return n.Text
}

// T2: trees by chance, all the way down.
func TestTreesMeanTheSame(t *testing.T) {
	r := rand.New(rand.NewSource(18))
	for range 30000 {
		n := grown(r, 1+r.Intn(6))
		holdBack(t, written(n), n, true)
	}
}

// Kinds are put together by their bits, whatever numbers are handed over.
func TestBits(t *testing.T) {
	for _, one := range anyKinds() {
		for _, two := range []int{math.MinInt, -64, -1, 0, 1, 30, 63, 64, 65, math.MaxInt} {
			all := of(one, two)
			for k := -70; k <= 140; k++ {
				want := k >= 0 && k < 64 && (k == one || k == two)
				if got := all.has(k); got != want {
					t.Fatal(strconv.Itoa(k)+" of", one, two, got)
				}
			}
		}
	}
	if of() != 0 || of().has(0) || of(0) != 1 || of(63) != 1<<63 || of(1, 1, 3) != 10 {
		t.Error("of")
	}
}
