package tree

import (
	"math"
	"math/rand"
	"reflect"
	"runtime/debug"
	"slices"
	"strconv"
	"strings"
	"testing"
	"unsafe"

	"galley/api"
)

// lit is an NLit.
func lit(s string) api.Node {
	return api.Node{Kind: api.NLit, Text: s}
}

// node is a node of that kind with l in it.
func node(kind int, l ...api.Node) api.Node {
	return api.Node{Kind: kind, L: l}
}

// noted is n with that comment ahead, and that one ahead of what closes it; "" of none.
func noted(n api.Node, note, tail string) api.Node {
	if note != "" {
		n.Notes = append(slices.Clone(n.Notes), note)
	}
	if tail != "" {
		n.Tail = append(slices.Clone(n.Tail), tail)
	}
	return n
}

// deepCopy is n in memory of its own, all the way down.
func deepCopy(n api.Node) api.Node {
	n.L, n.Notes, n.Tail = slices.Clone(n.L), slices.Clone(n.Notes), slices.Clone(n.Tail)
	for k := range n.L {
		n.L[k] = deepCopy(n.L[k])
	}
	return n
}

// inside are n and all that is in it, to be changed in their places.
func inside(n *api.Node) []*api.Node {
	list := []*api.Node{n}
	for k := range n.L {
		list = append(list, inside(&n.L[k])...)
	}
	return list
}

// spell is all of n as one text, another one for each tree; without Break unless breaks.
func spell(n api.Node, breaks bool) string {
	s := "(" + strconv.Itoa(n.Kind) + strconv.Quote(n.Text)
	if n.Break && breaks {
		s += " break"
	}
	if n.Blank {
		s += " blank"
	}
	for _, x := range n.Notes {
		s += " note" + strconv.Quote(x)
	}
	for _, x := range n.Tail {
		s += " tail" + strconv.Quote(x)
	}
	for _, x := range n.L {
		s += spell(x, breaks)
	}
	return s + ")"
}

// told is what the calls answer of one node.
type told struct {
	count       int
	notes, lits []string
	forced      bool
}

// asked is what they answer of n.
func asked(n api.Node) told {
	return told{Count(n), Notes(n), Lits(n), Forced(n)}
}

// anew is the chapter's words read anew, each node by those in it.
func anew(n api.Node) told {
	x := told{count: 1, notes: slices.Clone(n.Notes), forced: n.Break || n.Notes != nil || n.Tail != nil}
	if n.Kind == api.NLit {
		x.lits = []string{n.Text}
	}
	for _, y := range n.L {
		below := anew(y)
		x.count += below.count
		x.notes = append(x.notes, below.notes...)
		x.lits = append(x.lits, below.lits...)
		x.forced = x.forced || below.forced
	}
	x.notes = append(x.notes, n.Tail...)
	return x
}

// equal tells whether x and y are the same.
func (x told) equal(y told) bool {
	return x.count == y.count && x.forced == y.forced && slices.Equal(x.notes, y.notes) && slices.Equal(x.lits, y.lits)
}

// holdOne holds what is answered of n against the chapter's words read anew.
func holdOne(t *testing.T, n api.Node) {
	t.Helper()
	if got, want := asked(n), anew(n); !got.equal(want) {
		t.Fatalf("%s: %v, not %v", spell(n, true), got, want)
	}
}

// holdTwo holds Same and Like of a and b, both ways round, against what the two are as texts.
func holdTwo(t *testing.T, a, b api.Node) {
	t.Helper()
	same, like := spell(a, true) == spell(b, true), spell(a, false) == spell(b, false)
	if Same(a, b) != same || Same(b, a) != same {
		t.Fatalf("Same(%s, %s) is not %v", spell(a, true), spell(b, true), same)
	}
	if Like(a, b) != like || Like(b, a) != like {
		t.Fatalf("Like(%s, %s) is not %v", spell(a, true), spell(b, true), like)
	}
}

// shapes are all trees of so many nodes, of a kind alone.
func shapes(nodes int) []api.Node {
	var list []api.Node
	for _, l := range rows(nodes - 1) {
		list = append(list, api.Node{Kind: api.NTuple, L: l})
	}
	return list
}

// rows are all lists of trees of so many nodes together.
func rows(nodes int) [][]api.Node {
	if nodes == 0 {
		return [][]api.Node{nil}
	}
	var list [][]api.Node
	for first := 1; first <= nodes; first++ {
		for _, x := range shapes(first) {
			for _, others := range rows(nodes - first) {
				list = append(list, append([]api.Node{x}, others...))
			}
		}
	}
	return list
}

// each calls hold with every node whose parts are of these, with l in it.
func each(l []api.Node, hold func(n api.Node)) {
	flags := []bool{false, true}
	comments := [][]string{nil, {"%a"}}
	for _, kind := range []int{0, api.NLit, api.NTuple} {
		for _, text := range []string{"", "a"} {
			for _, broken := range flags {
				for _, blank := range flags {
					for _, notes := range comments {
						for _, tail := range comments {
							hold(api.Node{Kind: kind, Text: text, L: l, Break: broken, Blank: blank, Notes: notes, Tail: tail})
						}
					}
				}
			}
		}
	}
}

// sample is a tree that has all parts: what a text with comments in a call, a case and a fun is.
func sample() api.Node {
	list := api.Node{Kind: api.NList, Text: "|", L: []api.Node{noted(lit("1"), "%b", ""), lit("T")}, Break: true}
	clause := api.Node{Kind: api.NClause, L: []api.Node{
		node(api.NArgs, lit("X")),
		node(api.NGuard, node(api.NBody, lit("true")), node(api.NBody, lit("X"))),
		node(api.NBody, lit("a"), api.Node{Kind: api.NOp, Text: "+", L: []api.Node{lit("X"), lit("$a")}, Blank: true}),
	}, Break: true, Notes: []string{"%d", "%e"}}
	ask := api.Node{Kind: api.NCase, L: []api.Node{lit("Y"), clause}, Tail: []string{"%f"}}
	call := api.Node{Kind: api.NCall, L: []api.Node{lit("f"), noted(list, "", "%c"), ask, {Kind: api.NRef, Text: "m:f/1"}}, Tail: []string{"%g", "%h"}}
	return noted(call, "%a", "")
}

// 10.1 Same, Like: in all parts; each part of each node of a tree changed alone.
func TestParts(t *testing.T) {
	for _, x := range []struct {
		name   string
		change func(n *api.Node)
		like   bool
	}{
		{"nothing", func(n *api.Node) {}, true},
		{"Break", func(n *api.Node) { n.Break = !n.Break }, true},
		{"Kind", func(n *api.Node) { n.Kind++ }, false},
		{"Kind below 0", func(n *api.Node) { n.Kind = -n.Kind }, false},
		{"Kind of far more", func(n *api.Node) { n.Kind += 1 << 32 }, false},
		{"Text", func(n *api.Node) { n.Text += "x" }, false},
		{"Text of one byte less or none", func(n *api.Node) { n.Text = n.Text[:max(len(n.Text), 1)-1] + "\x00" }, false},
		{"Blank", func(n *api.Node) { n.Blank = !n.Blank }, false},
		{"a note more", func(n *api.Node) { n.Notes = append(slices.Clone(n.Notes), "%") }, false},
		{"an empty note", func(n *api.Node) { n.Notes = append(slices.Clone(n.Notes), "") }, false},
		{"a note ahead", func(n *api.Node) { n.Notes = append([]string{"%"}, n.Notes...) }, false},
		{"a tail more", func(n *api.Node) { n.Tail = append(slices.Clone(n.Tail), "%") }, false},
		{"an empty tail", func(n *api.Node) { n.Tail = append(slices.Clone(n.Tail), "") }, false},
		{"notes as tail", func(n *api.Node) { n.Notes, n.Tail = append(slices.Clone(n.Tail), "%"), n.Notes }, false},
		{"an item behind", func(n *api.Node) { n.L = append(slices.Clone(n.L), lit("x")) }, false},
		{"an empty item behind", func(n *api.Node) { n.L = append(slices.Clone(n.L), api.Node{}) }, false},
		{"an item ahead", func(n *api.Node) { n.L = append([]api.Node{lit("x")}, n.L...) }, false},
		{"one deeper", func(n *api.Node) { *n = node(n.Kind, *n) }, false},
	} {
		t.Run(x.name, func(t *testing.T) {
			a := sample()
			for k := range inside(&a) {
				b := deepCopy(a)
				x.change(inside(&b)[k])
				if Like(a, b) != x.like || Like(b, a) != x.like {
					t.Errorf("Like of the node %d is not %v", k, x.like)
				}
				if same := x.name == "nothing"; Same(a, b) != same || Same(b, a) != same {
					t.Errorf("Same of the node %d is not %v", k, same)
				}
				holdTwo(t, a, b)
				holdOne(t, b)
			}
		})
	}
}

// 10.1 Same, Like: notes and what is in a node count in their order and number.
func TestOrder(t *testing.T) {
	for _, x := range []struct {
		name string
		a, b api.Node
	}{
		{"items the other way round", node(api.NTuple, lit("a"), lit("b")), node(api.NTuple, lit("b"), lit("a"))},
		{"an item twice", node(api.NTuple, lit("a"), lit("a")), node(api.NTuple, lit("a"))},
		{"an item in another one", node(api.NTuple, node(api.NTuple, lit("a")), lit("b")), node(api.NTuple, node(api.NTuple, lit("a"), lit("b")))},
		{"an item in the one behind", node(api.NTuple, lit("a"), node(api.NTuple)), node(api.NTuple, node(api.NTuple, lit("a")))},
		{"notes the other way round", api.Node{Notes: []string{"%a", "%b"}}, api.Node{Notes: []string{"%b", "%a"}}},
		{"two notes as one", api.Node{Notes: []string{"%a", "%b"}}, api.Node{Notes: []string{"%a%b"}}},
		{"notes cut otherwise", api.Node{Notes: []string{"%a", ""}}, api.Node{Notes: []string{"", "%a"}}},
		{"tails the other way round", api.Node{Tail: []string{"%a", "%b"}}, api.Node{Tail: []string{"%b", "%a"}}},
		{"the last tail", api.Node{Tail: []string{"%a", "%b"}}, api.Node{Tail: []string{"%a", "%c"}}},
		{"a note of the item behind", node(api.NTuple, noted(lit("a"), "%", ""), lit("a")), node(api.NTuple, lit("a"), noted(lit("a"), "%", ""))},
		{"a note of what it stands in", node(api.NTuple, noted(lit("a"), "%", "")), noted(node(api.NTuple, lit("a")), "%", "")},
		{"texts that look alike", lit("é"), lit("e\u0301")},
		{"bytes that are no text", lit("\xff"), lit("\xfe")},
		{"a text of capital letters", lit("a"), lit("A")},
	} {
		t.Run(x.name, func(t *testing.T) {
			if Same(x.a, x.b) || Like(x.a, x.b) || Same(x.b, x.a) || Like(x.b, x.a) {
				t.Error("the same")
			}
			if !Same(x.a, x.a) || !Like(x.a, x.a) || !Same(x.b, deepCopy(x.b)) || !Like(x.b, deepCopy(x.b)) {
				t.Error("not the same")
			}
			holdTwo(t, x.a, x.b)
		})
	}
}

// 10.1, 10.2: every node of these parts, alone and as an item, each beside each.
func TestPartsAll(t *testing.T) {
	var alone, all []api.Node
	each(nil, func(n api.Node) { alone = append(alone, n) })
	each([]api.Node{}, func(n api.Node) { all = append(all, n) })
	for _, a := range alone {
		holdOne(t, a)
		for k, b := range all {
			holdTwo(t, a, b)
			holdTwo(t, node(api.NCall, lit("f"), a), node(api.NCall, lit("f"), b))
			holdOne(t, node(api.NTuple, a, alone[k]))
		}
	}
}

// 10.1: every two trees of up to seven nodes that are all alike but for what is in what.
func TestShapes(t *testing.T) {
	var all []api.Node
	for nodes := 1; nodes <= 7; nodes++ {
		list := shapes(nodes)
		for _, n := range list {
			if Count(n) != nodes {
				t.Fatalf("Count(%s): %d", spell(n, true), Count(n))
			}
		}
		all = append(all, list...)
	}
	if len(all) != 1+1+2+5+14+42+132 {
		t.Fatal(len(all))
	}
	for k, a := range all {
		for m, b := range all {
			if same := k == m; Same(a, b) != same || Like(a, b) != same {
				t.Fatalf("%s, %s: not %v", spell(a, true), spell(b, true), same)
			}
		}
	}
}

// 10.1 Notes, Lits: their order in every tree of up to seven nodes, each of which has notes, a tail and a text of its own.
func TestOrders(t *testing.T) {
	for nodes := 1; nodes <= 7; nodes++ {
		for _, n := range shapes(nodes) {
			for k, x := range inside(&n) {
				s := strconv.Itoa(k)
				x.Kind, x.Text, x.Notes, x.Tail = api.NLit, s, []string{"%" + s, "%+" + s}, []string{"%-" + s, "%!" + s}
			}
			holdOne(t, n)
			if l := Notes(n); len(l) != 4*nodes || l[0] != "%0" || l[1] != "%+0" || l[len(l)-2] != "%-0" || l[len(l)-1] != "%!0" {
				t.Fatal(l)
			}
			if l := Lits(n); len(l) != nodes || !slices.IsSortedFunc(l, strings.Compare) {
				t.Fatal(l)
			}
		}
	}
}

// 10.2 Forced: each part of each node of every tree of up to seven nodes, alone.
func TestForcedEach(t *testing.T) {
	parts := []struct {
		change func(n *api.Node)
		forced bool
	}{
		{func(n *api.Node) { n.Break = true }, true},
		{func(n *api.Node) { n.Notes = []string{"%"} }, true},
		{func(n *api.Node) { n.Notes = []string{""} }, true},
		{func(n *api.Node) { n.Tail = []string{"%"} }, true},
		{func(n *api.Node) { n.Tail = []string{""} }, true},
		{func(n *api.Node) { n.Blank = true }, false},
		{func(n *api.Node) { n.Text = "%" }, false},
		{func(n *api.Node) { n.Kind = api.NNote }, false},
		{func(n *api.Node) { n.Notes, n.Tail = []string{}, []string{} }, false},
	}
	for nodes := 1; nodes <= 7; nodes++ {
		for _, n := range shapes(nodes) {
			if Forced(n) {
				t.Fatal(spell(n, true))
			}
			for k := range nodes {
				for m, x := range parts {
					b := deepCopy(n)
					x.change(inside(&b)[k])
					if Forced(b) != x.forced {
						t.Fatalf("part %d of the node %d of %s: not %v", m, k, spell(n, true), x.forced)
					}
				}
			}
		}
	}
}

// 10.1, 10.2: ordinary trees, the edges, and what is in none of them.
func TestTold(t *testing.T) {
	for _, x := range []struct {
		name string
		n    api.Node
		want told
	}{
		{"nothing", api.Node{}, told{count: 1}},
		{"an atom", lit("a"), told{count: 1, lits: []string{"a"}}},
		{"a literal of no bytes", lit(""), told{count: 1, lits: []string{""}}},
		{"the chapter's", node(api.NCall, lit("f"), lit("1")), told{count: 3, lits: []string{"f", "1"}}},
		{"a literal twice", node(api.NTuple, lit("a"), lit("a")), told{count: 3, lits: []string{"a", "a"}}},
		{"a literal with items", api.Node{Kind: api.NLit, Text: "a", L: []api.Node{lit("b"), lit("c")}}, told{count: 3, lits: []string{"a", "b", "c"}}},
		{"texts that are no literals", node(api.NTuple, api.Node{Kind: api.NRef, Text: "f/1"}, api.Node{Kind: api.NUn, Text: "-", L: []api.Node{lit("1")}}), told{count: 4, lits: []string{"1"}}},
		{"a raw form", api.Node{Kind: api.NRaw, Text: "f(X) %c\n-> a."}, told{count: 1}},
		{"a comment between forms", api.Node{Kind: api.NNote, Text: "%a"}, told{count: 1}},
		{"a note", noted(lit("a"), "%b", ""), told{count: 1, notes: []string{"%b"}, lits: []string{"a"}, forced: true}},
		{"a tail", noted(node(api.NTuple), "", "%b"), told{count: 1, notes: []string{"%b"}, forced: true}},
		{"the same note everywhere", noted(node(api.NTuple, noted(lit("a"), "%", "")), "%", "%"), told{count: 2, notes: []string{"%", "%", "%"}, lits: []string{"a"}, forced: true}},
		{"a break within", node(api.NTuple, lit("a"), node(api.NTuple, api.Node{Kind: api.NList, Break: true})), told{count: 4, lits: []string{"a"}, forced: true}},
		{"a blank line", node(api.NBody, lit("a"), api.Node{Kind: api.NLit, Text: "b", Blank: true}), told{count: 3, lits: []string{"a", "b"}}},
		{"bytes that are no text", noted(lit("\xff"), "%\xfe\x00", ""), told{count: 1, notes: []string{"%\xfe\x00"}, lits: []string{"\xff"}, forced: true}},
		{"all parts", sample(), told{count: 21, notes: []string{"%a", "%b", "%c", "%d", "%e", "%f", "%g", "%h"}, lits: []string{"f", "1", "T", "Y", "X", "true", "X", "a", "X", "$a"}, forced: true}},
	} {
		t.Run(x.name, func(t *testing.T) {
			if got := asked(x.n); !got.equal(x.want) {
				t.Errorf("%v", got)
			}
			holdOne(t, x.n)
		})
	}
}

// 10.1, rule 7: of all kinds, and numbers that are none, an NLit alone has its Text in Lits; two kinds are never the same.
func TestKinds(t *testing.T) {
	kinds := []int{math.MinInt, math.MinInt32, -api.NLit, api.NLit + 1<<8, api.NLit + 1<<16, api.NLit + 1<<32, math.MaxInt32, math.MaxInt}
	for k := range api.NNote + 3 {
		kinds = append(kinds, k)
	}
	for _, k := range kinds {
		n := api.Node{Kind: k, Text: "a", L: []api.Node{lit("b")}}
		want := []string{"b"}
		if k == api.NLit {
			want = []string{"a", "b"}
		}
		if l := Lits(n); !slices.Equal(l, want) {
			t.Errorf("kind %d: %v", k, l)
		}
		if Count(n) != 2 || Forced(n) || len(Notes(n)) != 0 {
			t.Errorf("kind %d: %v", k, asked(n))
		}
		for _, m := range kinds {
			other := n
			other.Kind = m
			if Same(n, other) != (k == m) || Like(n, other) != (k == m) {
				t.Errorf("kinds %d, %d", k, m)
			}
		}
	}
}

// Rule 5: a nil list and an empty one are the same.
func TestEmpty(t *testing.T) {
	a := sample()
	b := deepCopy(a)
	for _, x := range inside(&b) {
		if len(x.L) == 0 {
			x.L = []api.Node{}
		}
		if len(x.Notes) == 0 {
			x.Notes = []string{}
		}
		if len(x.Tail) == 0 {
			x.Tail = make([]string, 0, 4)
		}
	}
	if !Same(a, b) || !Same(b, a) || !Like(a, b) || !Like(b, a) {
		t.Error("not the same")
	}
	if got, want := asked(b), asked(a); !got.equal(want) {
		t.Errorf("%v, not %v", got, want)
	}
}

// grown is a tree of some nodes, their parts by chance.
func grown(r *rand.Rand, deep int) api.Node {
	texts := []string{"", "a", "b", "%a", "\xff"}
	text := func() string { return texts[r.Intn(len(texts))] }
	n := api.Node{Kind: r.Intn(4), Text: text(), Break: r.Intn(8) == 0, Blank: r.Intn(4) == 0}
	for r.Intn(6) == 0 {
		n.Notes = append(n.Notes, text())
	}
	for r.Intn(6) == 0 {
		n.Tail = append(n.Tail, text())
	}
	for deep > 0 && r.Intn(3) > 0 {
		n.L = append(n.L, grown(r, deep-1))
	}
	return n
}

// 10.1, 10.2: trees of all kinds of parts, beside others and beside one with a node put in another one's place.
func TestGrown(t *testing.T) {
	r := rand.New(rand.NewSource(10))
	last := api.Node{}
	for range 2000 {
		a := grown(r, 5)
		holdOne(t, a)
		holdTwo(t, a, last)
		b := deepCopy(a)
		holdTwo(t, a, b)
		list := inside(&b)
		*list[r.Intn(len(list))] = grown(r, 1)
		holdTwo(t, a, b)
		list = inside(&a)
		list[r.Intn(len(list))].Break = true
		holdTwo(t, a, b)
		last = a
	}
}

// chain is a tree of so many nodes, each in the one ahead, the last one of which is n; before and behind each stand others.
func chain(nodes int, n api.Node, before, behind []api.Node) api.Node {
	for range nodes - 1 {
		n = api.Node{Kind: api.NTuple, L: slices.Concat(before, []api.Node{n}, behind)}
	}
	return n
}

// Rule 1: trees far deeper than a text has them, and some of many nodes. The stack of calls is kept small, so that one that grew with the tree would break.
func TestGreat(t *testing.T) {
	const deep = 200000
	defer debug.SetMaxStack(debug.SetMaxStack(1 << 20))
	few := []api.Node{{}}
	wide := api.Node{Kind: api.NList, L: make([]api.Node, deep)}
	wide.L[deep-1] = lit("z")
	double := lit("z")
	for range 18 {
		double = node(api.NTuple, double, double)
	}
	for _, x := range []struct {
		name        string
		make        func(n api.Node) api.Node
		count, lits int
	}{
		{"a chain", func(n api.Node) api.Node { return chain(deep, n, nil, nil) }, deep, 1},
		{"a chain of first ones", func(n api.Node) api.Node { return chain(deep, n, nil, few) }, 2*deep - 1, 1},
		{"a chain of last ones", func(n api.Node) api.Node { return chain(deep, n, few, nil) }, 2*deep - 1, 1},
		{"many items", func(n api.Node) api.Node { return api.Node{L: append(slices.Clip(wide.L[:deep-1]), n)} }, deep + 1, 1},
		{"twice two", func(n api.Node) api.Node { return node(api.NTuple, double, n) }, 1<<19 + 1, 1<<18 + 1},
	} {
		t.Run(x.name, func(t *testing.T) {
			a, b, c := x.make(lit("z")), x.make(lit("z")), x.make(noted(lit("z"), "%a", "%b"))
			if Count(a) != x.count || len(Lits(a)) != x.lits || len(Notes(a)) != 0 || Forced(a) {
				t.Error(Count(a), len(Lits(a)), len(Notes(a)), Forced(a))
			}
			if !Same(a, b) || !Like(a, b) || Same(a, c) || Like(c, a) {
				t.Error("Same, Like")
			}
			if l := Notes(c); !slices.Equal(l, []string{"%a", "%b"}) || !Forced(c) {
				t.Error(len(l), Forced(c))
			}
		})
	}
}

// within tells whether the bytes of s are some of those of one of the texts of n.
func within(s string, n *api.Node) bool {
	at := uintptr(unsafe.Pointer(unsafe.StringData(s)))
	for _, x := range inside(n) {
		for _, y := range slices.Concat([]string{x.Text}, x.Notes, x.Tail) {
			from := uintptr(unsafe.Pointer(unsafe.StringData(y)))
			if len(s) > 0 && at >= from && at < from+uintptr(len(y)) {
				return true
			}
		}
	}
	return false
}

// Rules 2 and 3: what is handed in stays as it is, the same call gives the same answer, and each answer is new.
func TestOwn(t *testing.T) {
	n := sample()
	kept := deepCopy(n)
	first, again := asked(n), asked(n)
	if !first.equal(again) || !Same(n, kept) || !Like(n, kept) {
		t.Error(first, again)
	}
	for _, s := range slices.Concat(first.notes, first.lits) {
		if within(s, &n) {
			t.Errorf("%q is the argument's memory", s)
		}
	}
	clear(first.notes[:cap(first.notes)])
	clear(first.lits[:cap(first.lits)])
	if !reflect.DeepEqual(n, kept) {
		t.Errorf("%s, not %s", spell(n, true), spell(kept, true))
	}
	if got := asked(n); !got.equal(again) {
		t.Error(got, again)
	}
	// Lists with room behind them: nothing is put there.
	room := append(make([]string, 0, 4), "%a")
	m := api.Node{Notes: room, Tail: []string{"%b"}}
	if l := Notes(m); !slices.Equal(l, []string{"%a", "%b"}) || room[:2][1] != "" {
		t.Error(l, room[:2])
	}
	for _, x := range inside(&n) {
		x.Text, x.Notes, x.Tail, x.Kind = "", nil, nil, 0
	}
	if !again.equal(anew(kept)) {
		t.Error(again)
	}
}
