package low

import (
	"math"
	"math/rand"
	"reflect"
	"runtime/debug"
	"slices"
	"strconv"
	"strings"
	"testing"
	"unsafe"

	"galley/api"
	"galley/doc"
	"galley/render"
	"galley/tree"
)

// widths are those that trees are laid out at.
func widths() []int { return []int{1, 7, 12, 20, 33, 60, 100, api.MaxWidth} }

// holdSame holds that two documents have the same layouts.
func holdSame(t *testing.T, got, want api.Doc) {
	t.Helper()
	for _, width := range widths() {
		one, two := laid(t, got, width), laid(t, want, width)
		if one != two {
			t.Fatalf("at %d:\n%s\nnot\n%s", width, one, two)
		}
		if !slices.Equal(render.Modes(got, width), render.Modes(want, width)) {
			t.Fatalf("at %d: not the same groups:\n%s", width, one)
		}
	}
}

// holdLook holds T3: comments stand on lines of their own, blank lines are one or none, and lines begin in columns that are multiples of four.
func holdLook(t *testing.T, s string, notes []string) {
	t.Helper()
	var seen []string
	blank := true
	for _, line := range strings.Split(s, "\n") {
		text := strings.TrimLeft(line, " ")
		if (len(line)-len(text))%4 != 0 || text == "" && (blank || line != "") {
			t.Fatalf("%q in\n%s", line, s)
		}
		blank = text == ""
		if strings.Contains(text, "%") {
			seen = append(seen, text)
		}
	}
	if !slices.Equal(seen, notes) {
		t.Fatalf("comments %q, not %q:\n%s", seen, notes, s)
	}
}

// holdKept holds T3: what was broken is broken, if there is something in it.
func holdKept(t *testing.T, before, after api.Node) {
	t.Helper()
	empty := len(before.Tail) == 0 && len(after.L) == 0
	switch before.Kind {
	case api.NCall, api.NMapUp, api.NRecUp:
		empty = len(before.Tail) == 0 && len(after.L) == 1
	}
	if before.Break && !empty && !after.Break {
		t.Fatalf("not broken: kind %d", before.Kind)
	}
	for k := range before.L {
		holdKept(t, before.L[k], after.L[k])
	}
}

// holdBack holds 19.4, T2 and T4 of n: what is written is read as the tree, and is written again as it is.
func holdBack(t *testing.T, n api.Node) {
	t.Helper()
	for _, width := range widths() {
		s := laid(t, Expr(n), width)
		back := read(t, s)
		if !tree.Like(n, back) {
			t.Fatalf("at %d read as another tree:\n%s", width, s)
		}
		if again := laid(t, Expr(back), width); again != s {
			t.Fatalf("at %d written again:\n%s\nthen\n%s", width, s, again)
		}
		holdLook(t, s, tree.Notes(n))
		holdKept(t, n, back)
	}
}

// holdParts holds At, Clause, Body and Box of what is in n against the words read anew.
func holdParts(t *testing.T, n api.Node) {
	t.Helper()
	switch n.Kind {
	case api.NClause:
		holdSame(t, Clause(n), anewAlone(n))
	case api.NBody:
		holdSame(t, Body(n), cat(anewBody(n)))
	case api.NArgs:
		holdSame(t, Box("(", n.L, 0, ")", n), anewBox("(", n.L, 0, ")", n))
	case api.NTuple, api.NList, api.NBin, api.NMap, api.NRec:
		for level := 0; level <= 12; level++ {
			holdSame(t, Box("<", n.L, level, ">", n), anewBox("<", n.L, level, ">", n))
		}
	}
	if n.Kind < api.NClause {
		for level := -1; level <= 12; level++ {
			holdSame(t, At(n, level), anewAt(n, level))
		}
	}
	for _, x := range n.L {
		holdParts(t, x)
	}
}

// 19.1 to 19.4, T2 to T4: trees by chance.
func TestGrown(t *testing.T) {
	for seed := range int64(4000) {
		g := &grower{Rand: rand.New(rand.NewSource(seed)), comments: int(seed % 5)}
		n := g.expr(1 + g.Intn(5))
		holdSame(t, Expr(n), anewExpr(n))
		holdBack(t, n)
	}
}

// 19.1, 19.3: each call, of what stands in trees by chance.
func TestGrownParts(t *testing.T) {
	for seed := range int64(150) {
		g := &grower{Rand: rand.New(rand.NewSource(seed)), comments: int(seed % 4)}
		holdParts(t, g.expr(1+g.Intn(4)))
	}
}

// parts are expressions of each kind, and each operator.
func parts() []string {
	l := []string{
		"a", "X", "?M", "'a b'", "1", "1.5", "16#FF", "$a", `"a"`, "fun f/1", "f()", "f(a, b)", "f(\na)", "m:f", "m:f(a)", "{}", "{a}", "{a %c\n}", "[]", "[a]", "[a | b]", "<<>>", "<<a:8, b>>",
		"#{}", "#{a => b}", "X#{a := b}", "#r{}", "#r{a = b}", "X#r{a}", "X#r.f", "- a", "+ a", "not a", "bnot a", "catch a", "f/1", "a / b", "[a || b]", "[a || X <- b, c]",
		"case a of b -> c end", "if a -> b; c -> d end", "receive a -> b end", "receive after a -> b end", "receive a -> b %c\n after c -> d end", "begin a end", "begin a, %c\n b end", "fun() -> a end", "fun(a, b) when c -> d end", "fun(a) -> b; (c) -> d %c\n end",
	}
	for _, op := range strings.Fields(":: | = ! orelse andalso == /= =< < >= > =:= =/= ++ -- + - bor bxor bsl bsr or xor * / div rem band and") {
		l = append(l, "a "+op+" b", "a "+op+" (b "+op+" c)", "(a "+op+" b) "+op+" c")
	}
	return l
}

// places are where expressions may stand: @ is one.
func places() []string {
	l := []string{
		"@", "@(a)", "f(@)", "f(@, a)", "f(a, @)", "@:a", "a:@", "{@}", "[@]", "[@ | a]", "[a | @]", "<<@>>", "<<@:8>>", "#{@}", "#{@ => a}", "#{a := @}", "@#{a => b}", "#r{@}", "@#r{a}", "@#r.f", "- @", "not @", "catch @",
		"[@ || a]", "[a || @]", "[a || @ <- b]", "[a || b <= @]", "[a || X <- L, @]", "case @ of a -> b end", "case a of @ -> b end", "case a of b when @ -> c end", "case a of b -> @ end", "if @ -> a end", "if a -> @, b end", "if a; @, b -> c end",
		"receive @ -> a end", "receive a -> @ after b -> c end", "receive after @ -> a end", "receive after a -> @ end", "begin @ end", "begin a, @ end", "fun() -> @ end", "fun(@) -> a end", "fun() when @ -> a end", "fun(a) -> @; (@) -> c end", "X = @ = Y", "a ++ @ ++ b", "@ = {a}", "{a} = {b} = @",
	}
	for _, op := range strings.Fields(":: | = ! orelse andalso == =< =:= ++ -- + - bor xor * / div and") {
		l = append(l, "@ "+op+" a", "a "+op+" @")
	}
	return l
}

// 19.2, 19.4, T2 to T4: each kind at each place.
func TestPlaces(t *testing.T) {
	for _, place := range places() {
		for _, s := range parts() {
			n := read(t, strings.ReplaceAll(place, "@", "("+s+")"))
			holdSame(t, Expr(n), anewExpr(n))
			holdBack(t, n)
		}
	}
}

// anyNode is a node of any parts, which 13 need not make.
func anyNode(r *rand.Rand, deep int) api.Node {
	texts := strings.Fields("| / = => <- after catch - + not a 1 $a :8 f/1 ::")
	n := api.Node{Kind: r.Intn(34) - 1, Break: r.Intn(2) == 0, Blank: r.Intn(2) == 0}
	if r.Intn(3) > 0 {
		n.Text = texts[r.Intn(len(texts))]
	}
	if r.Intn(4) == 0 {
		n.Notes = []string{"%a", ""}[:r.Intn(3)]
		n.Tail = []string{"%b", ""}[:r.Intn(3)]
	}
	for range r.Intn(4) * min(deep, 1) {
		n.L = append(n.L, anyNode(r, deep-1))
	}
	return n
}

// Rule 1: no call panics, whatever tree it is given, and what it answers may be laid out.
func TestAnyNode(t *testing.T) {
	r := rand.New(rand.NewSource(19))
	for range 40000 {
		n := anyNode(r, r.Intn(5))
		level := r.Intn(14) - 1
		for k, d := range []api.Doc{Expr(n), At(n, level), Clause(n), Body(n), Box("(", n.L, level, ")", n)} {
			if !doc.May(d) {
				t.Fatalf("%d: %+v", k, n)
			}
		}
	}
	for kind := -1; kind <= 40; kind++ {
		for _, text := range []string{"", "|", "after", "/", "=", "catch"} {
			for least := range 4 {
				n := api.Node{Kind: kind, Text: text, L: make([]api.Node, least)}
				for _, d := range []api.Doc{Expr(n), At(n, math.MaxInt), At(n, math.MinInt), Clause(n), Body(n), Box(text, n.L, math.MinInt, text, n)} {
					if !doc.May(d) {
						t.Fatalf("%+v", n)
					}
				}
			}
		}
	}
}

// memory is where lists, and the bytes of texts, stand.
type memory struct {
	texts map[*byte]bool
	lists map[*api.Doc]bool
}

// addNode adds the texts of a tree.
func (m memory) addNode(n *api.Node) {
	for _, s := range slices.Concat([]string{n.Text}, n.Notes, n.Tail) {
		for k := range s {
			m.texts[unsafe.StringData(s[k:])] = true
		}
	}
	for k := range n.L {
		m.addNode(&n.L[k])
	}
}

// addDoc adds the lists of a document, and holds that it has no text and no list that is there.
func (m memory) addDoc(t *testing.T, d *api.Doc) {
	t.Helper()
	if d.Text != "" && m.texts[unsafe.StringData(d.Text)] {
		t.Errorf("a text of the tree: %q", d.Text)
	}
	if p := unsafe.SliceData(d.L); len(d.L) > 0 {
		if m.lists[p] {
			t.Errorf("a list of two")
		}
		m.lists[p] = true
	}
	for k := range d.L {
		m.addDoc(t, &d.L[k])
	}
}

// Rules 2 and 3: what is handed in is not changed, nor a part of what is answered; the same arguments have the same answers.
func TestOwn(t *testing.T) {
	for seed := range int64(300) {
		made := func() api.Node {
			g := &grower{Rand: rand.New(rand.NewSource(seed)), comments: 3}
			return g.expr(1 + g.Intn(4))
		}
		n, kept := made(), made()
		open, end := strings.Clone("{("), strings.Clone(")}")
		m := memory{map[*byte]bool{unsafe.StringData(open): true, unsafe.StringData(end): true}, map[*api.Doc]bool{}}
		m.addNode(&n)
		box := func() api.Doc { return Box(open, []api.Node{n, n}, 5, end, n) }
		for _, call := range []func() api.Doc{func() api.Doc { return Expr(n) }, func() api.Doc { return At(n, 12) }, box} {
			one, two := call(), call()
			if !reflect.DeepEqual(one, two) {
				t.Fatal("another answer")
			}
			m.addDoc(t, &one)
			m.addDoc(t, &two)
		}
		if !reflect.DeepEqual(n, kept) {
			t.Fatal("changed")
		}
	}
	s := "case a of b when c -> %x\n d, e end"
	n, kept := read(t, s).L[1], read(t, s).L[1]
	for range 2 {
		holdSame(t, Clause(n), anewAlone(n))
		holdSame(t, Body(n.L[2]), cat(anewBody(n.L[2])))
	}
	if !tree.Same(n, kept) {
		t.Error("changed")
	}
}

// deep are trees that are so deep, each of the kinds that stand in each other.
func deep(many int) map[string]api.Node {
	lit := func(s string) api.Node { return api.Node{Kind: api.NLit, Text: s} }
	around := map[string]func(x api.Node) api.Node{
		"call":   func(x api.Node) api.Node { return api.Node{Kind: api.NCall, L: []api.Node{lit("f"), x}} },
		"called": func(x api.Node) api.Node { return api.Node{Kind: api.NCall, L: []api.Node{x}} },
		"module": func(x api.Node) api.Node { return api.Node{Kind: api.NRemote, L: []api.Node{x, lit("f")}} },
		"tuple":  func(x api.Node) api.Node { return api.Node{Kind: api.NTuple, L: []api.Node{x}} },
		"tail":   func(x api.Node) api.Node { return api.Node{Kind: api.NList, Text: "|", L: []api.Node{lit("a"), x}} },
		"bin":    func(x api.Node) api.Node { return api.Node{Kind: api.NBin, L: []api.Node{x}} },
		"field":  func(x api.Node) api.Node { return api.Node{Kind: api.NField, Text: "r.f", L: []api.Node{x}} },
		"sign":   func(x api.Node) api.Node { return api.Node{Kind: api.NUn, Text: "-", L: []api.Node{x}} },
		"catch":  func(x api.Node) api.Node { return api.Node{Kind: api.NUn, Text: "catch", L: []api.Node{x}} },
		"left":   func(x api.Node) api.Node { return api.Node{Kind: api.NOp, Text: "+", L: []api.Node{x, lit("a")}} },
		"right":  func(x api.Node) api.Node { return api.Node{Kind: api.NOp, Text: "+", L: []api.Node{lit("a"), x}} },
		"row":    func(x api.Node) api.Node { return api.Node{Kind: api.NOp, Text: "=", L: []api.Node{lit("a"), x}} },
		"begin": func(x api.Node) api.Node {
			return api.Node{Kind: api.NBegin, L: []api.Node{{Kind: api.NBody, L: []api.Node{x}}}}
		},
		"fun": func(x api.Node) api.Node {
			return api.Node{Kind: api.NFun, L: []api.Node{{Kind: api.NClause, L: []api.Node{{Kind: api.NArgs}, {Kind: api.NGuard}, {Kind: api.NBody, L: []api.Node{x}}}}}}
		},
	}
	trees := map[string]api.Node{}
	for name, one := range around {
		n := lit("a")
		for range many {
			n = one(n)
		}
		trees[name] = n
	}
	return trees
}

// T1: trees deeper than calls can go, each gone over once.
func TestDeep(t *testing.T) {
	defer debug.SetMaxStack(debug.SetMaxStack(1 << 20))
	const many = 40000
	for name, n := range deep(many) {
		d := Expr(n)
		if !doc.May(d) {
			t.Error(name)
		}
		if parts := doc.Count(d); parts < many || parts > 12*many {
			t.Error(name, parts)
		}
		for _, d := range []api.Doc{At(n, 12), Box("(", []api.Node{n}, 0, ")", n), Clause(api.Node{L: []api.Node{{L: []api.Node{n}}, {}, {L: []api.Node{n}}}}), Body(api.Node{L: []api.Node{n}})} {
			if parts := doc.Count(d); parts < many || parts > 24*many+24 {
				t.Error(name, parts)
			}
		}
	}
}

// T1, T2, T4: what is as long as a text may be, and longer.
func TestLong(t *testing.T) {
	again := func(s string) string { return strings.Repeat(s, 60000/len(s)) }
	for _, s := range []string{
		again("+-") + "a", again("a+") + "a", again("a=") + "a", again("a=b!") + "a", again("not ") + "a", again("catch ") + "a", "f" + again("()"), "f" + again("(a)"), "X" + again("#{}"), "X" + again("#r.f"),
		"[" + again("a,") + "a|b]", "{" + again("{},") + "a}", "f(" + again("\n%c\na,") + "a)", "begin " + again("a,\n\n") + "a end", "case a of " + again("b->c;") + "d->e end", "if " + again("a;") + "a->b end", "if " + again("a,") + "a->b end", "fun" + again("()->b;") + "()->c end", "<<" + again("a:8,") + "b>>", "{" + again("%c\n") + "}", "[a||" + again("b<-c,") + "d]",
	} {
		n := read(t, s)
		for _, width := range []int{1, 80} {
			text := laid(t, Expr(n), width)
			if len(text) > api.MaxBytes {
				continue // no text of tokens any more
			}
			back := read(t, text)
			if !tree.Like(n, back) || laid(t, Expr(back), width) != text {
				t.Error(strconv.Quote(s[:20]), width)
			}
		}
	}
	row := make([]api.Node, 200000)
	for k := range row {
		row[k] = api.Node{Kind: api.NLit, Text: "a"}
	}
	if got := laid(t, Expr(api.Node{Kind: api.NTuple, L: row}), 80); len(got) != 7*len(row)+2 {
		t.Error(len(got))
	}
}
