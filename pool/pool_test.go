package pool

import (
	"fmt"
	"math"
	"math/rand"
	"reflect"
	"runtime/debug"
	"slices"
	"testing"
	"unsafe"

	"galley/api"
	"galley/tree"
)

// plain is the chapter's words read anew: the first one of all nodes that are Like, in the order of their numbers.
type plain struct{ first []api.Node }

// put is n's number.
func (p *plain) put(n api.Node) int {
	for _, x := range n.L {
		p.put(x)
	}
	for k, x := range p.first {
		if tree.Like(x, n) {
			return k + 1
		}
	}
	p.first = append(p.first, n)
	return len(p.first)
}

// both is a pool, and a plain one that gets the same nodes.
type both struct {
	pool *Pool
	want plain
}

// newBoth is one without nodes.
func newBoth() *both { return &both{pool: New()} }

// put puts n into both, and holds all that is answered behind it against the plain one.
func (b *both) put(t *testing.T, n api.Node) {
	t.Helper()
	kept := own(n)
	if got, want := b.pool.Put(n), b.want.put(kept); got != want {
		t.Fatalf("Put(%v): %d, not %d", n, got, want)
	}
	if !reflect.DeepEqual(n, kept) {
		t.Fatalf("%v was %v", n, kept)
	}
	b.hold(t)
}

// hold holds Len, and Size of each number and of those around them.
func (b *both) hold(t *testing.T) {
	t.Helper()
	last := len(b.want.first)
	if got := b.pool.Len(); got != last {
		t.Fatalf("Len: %d, not %d", got, last)
	}
	for id := -2; id <= last+2; id++ {
		want := 0
		if id >= 1 && id <= last {
			want = tree.Count(b.want.first[id-1])
		}
		if got := b.pool.Size(id); got != want {
			t.Fatalf("Size(%d): %d, not %d", id, got, want)
		}
	}
}

// atom is an NLit.
func atom(s string) api.Node { return api.Node{Kind: api.NLit, Text: s} }

// tuple is an NTuple of l.
func tuple(l ...api.Node) api.Node { return api.Node{Kind: api.NTuple, L: l} }

// call is an NCall of f and l.
func call(f string, l ...api.Node) api.Node {
	return api.Node{Kind: api.NCall, L: append([]api.Node{atom(f)}, l...)}
}

// with is n changed.
func with(n api.Node, change func(n *api.Node)) api.Node {
	change(&n)
	return n
}

// own is n in memory of its own, all the way down.
func own(n api.Node) api.Node {
	n.L, n.Notes, n.Tail = slices.Clone(n.L), slices.Clone(n.Notes), slices.Clone(n.Tail)
	for k, x := range n.L {
		n.L[k] = own(x)
	}
	return n
}

// parts are n and all that is in it, to be changed in their places.
func parts(n *api.Node) []*api.Node {
	list := []*api.Node{n}
	for k := range n.L {
		list = append(list, parts(&n.L[k])...)
	}
	return list
}

// whole is a form that has all parts.
func whole() api.Node {
	broken := api.Node{Kind: api.NList, Text: "|", L: []api.Node{atom("1"), atom("T")}, Break: true, Notes: []string{"%a", "%b"}}
	sum := api.Node{Kind: api.NOp, Text: "+", L: []api.Node{atom("X"), atom("1")}, Blank: true}
	body := api.Node{Kind: api.NBody, L: []api.Node{call("f", broken), sum}}
	clause := api.Node{Kind: api.NClause, Text: "f", L: []api.Node{{Kind: api.NArgs, L: []api.Node{atom("X")}, Tail: []string{"%c", "%d"}}, {Kind: api.NGuard}, body}}
	return api.Node{Kind: api.NFunc, L: []api.Node{clause}, Blank: true}
}

// 11.1: the chapter's example, and the number of each part of it afterwards.
func TestExample(t *testing.T) {
	p := New()
	if p.Len() != 0 || p.Size(1) != 0 {
		t.Fatal(p.Len(), p.Size(1))
	}
	n := call("f", atom("a"), atom("a"))
	for range 3 {
		if id := p.Put(n); id != 3 || p.Len() != 3 {
			t.Fatal(id, p.Len())
		}
		if f, a := p.Put(atom("f")), p.Put(atom("a")); f != 1 || a != 2 || p.Len() != 3 {
			t.Fatal(f, a, p.Len())
		}
		if p.Size(1) != 1 || p.Size(2) != 1 || p.Size(3) != 4 {
			t.Fatal(p.Size(1), p.Size(2), p.Size(3))
		}
	}
	if id := p.Put(atom("b")); id != 4 || p.Len() != 4 || p.Size(4) != 1 {
		t.Fatal(id, p.Len(), p.Size(4))
	}
}

// 11.1: in which order numbers are given: to what is in a node, all the way down, ahead of the node; of each number how many nodes it has.
func TestOrder(t *testing.T) {
	for _, x := range []struct {
		name  string
		put   []api.Node
		ids   []int
		sizes []int
	}{
		{"nothing", nil, nil, nil},
		{"an empty node", []api.Node{{}}, []int{1}, []int{1}},
		{"an atom twice", []api.Node{atom("a"), atom("a")}, []int{1, 1}, []int{1}},
		{"items in their order", []api.Node{tuple(atom("b"), atom("a")), atom("a"), atom("b")}, []int{3, 2, 1}, []int{1, 1, 3}},
		{"a deep one first", []api.Node{tuple(tuple(tuple(atom("c")), atom("b")), atom("a")), atom("c"), tuple(atom("c")), atom("b"), tuple(tuple(atom("c")), atom("b")), atom("a")}, []int{6, 1, 2, 3, 4, 5}, []int{1, 2, 1, 4, 1, 6}},
		{"a deep one last", []api.Node{tuple(atom("a"), tuple(atom("b"), tuple(atom("c")))), atom("a"), atom("b"), atom("c"), tuple(atom("c"))}, []int{6, 1, 2, 3, 4}, []int{1, 1, 1, 2, 4, 6}},
		{"what is known, in something new", []api.Node{atom("a"), tuple(atom("b"), atom("a"), atom("b")), tuple(atom("a"))}, []int{1, 3, 4}, []int{1, 1, 4, 2}},
		{"what is new, with something known", []api.Node{tuple(atom("a")), tuple(tuple(atom("a")), tuple(atom("a")))}, []int{2, 3}, []int{1, 2, 5}},
		{"alike but broken", []api.Node{with(atom("a"), func(n *api.Node) { n.Break = true }), atom("a"), tuple(atom("a"))}, []int{1, 1, 2}, []int{1, 2}},
	} {
		t.Run(x.name, func(t *testing.T) {
			p, b := New(), newBoth()
			for k, n := range x.put {
				if id := p.Put(n); id != x.ids[k] {
					t.Errorf("node %d: %d, not %d", k, id, x.ids[k])
				}
				b.put(t, n)
			}
			if p.Len() != len(x.sizes) {
				t.Errorf("Len: %d", p.Len())
			}
			for k, size := range x.sizes {
				if p.Size(k+1) != size {
					t.Errorf("Size(%d): %d, not %d", k+1, p.Size(k+1), size)
				}
			}
		})
	}
}

// 11.1, rule 5: a node with one part changed, at each place of a tree, has another number; with another Break, or an empty list for none, the same.
func TestPart(t *testing.T) {
	for _, x := range []struct {
		name   string
		change func(n *api.Node)
		same   bool
	}{
		{"nothing", func(n *api.Node) {}, true},
		{"Break", func(n *api.Node) { n.Break = !n.Break }, true},
		{"empty lists", func(n *api.Node) {
			n.L, n.Notes, n.Tail = append([]api.Node{}, n.L...), append([]string{}, n.Notes...), append([]string{}, n.Tail...)
		}, true},
		{"lists with room", func(n *api.Node) { n.L, n.Notes = slices.Grow(n.L, 3), slices.Grow(n.Notes, 3) }, true},
		{"Kind", func(n *api.Node) { n.Kind++ }, false},
		{"Kind below 0", func(n *api.Node) { n.Kind = -n.Kind }, false},
		{"Kind of far more", func(n *api.Node) { n.Kind += 1 << 32 }, false},
		{"Text", func(n *api.Node) { n.Text += "x" }, false},
		{"Text and a byte 0", func(n *api.Node) { n.Text += "\x00" }, false},
		{"Blank", func(n *api.Node) { n.Blank = !n.Blank }, false},
		{"a note more", func(n *api.Node) { n.Notes = append(slices.Clone(n.Notes), "%") }, false},
		{"a note of no bytes", func(n *api.Node) { n.Notes = append(slices.Clone(n.Notes), "") }, false},
		{"a note ahead", func(n *api.Node) { n.Notes = append([]string{"%"}, n.Notes...) }, false},
		{"a tail more", func(n *api.Node) { n.Tail = append(slices.Clone(n.Tail), "%") }, false},
		{"a tail of no bytes", func(n *api.Node) { n.Tail = append(slices.Clone(n.Tail), "") }, false},
		{"one note in its tail", func(n *api.Node) { n.Notes, n.Tail = append(slices.Clone(n.Tail), "%"), n.Notes }, false},
		{"an item behind", func(n *api.Node) { n.L = append(slices.Clone(n.L), atom("x")) }, false},
		{"an empty item behind", func(n *api.Node) { n.L = append(slices.Clone(n.L), api.Node{}) }, false},
		{"an item ahead", func(n *api.Node) { n.L = append([]api.Node{atom("x")}, n.L...) }, false},
		{"one deeper", func(n *api.Node) { *n = tuple(*n) }, false},
	} {
		t.Run(x.name, func(t *testing.T) {
			a := whole()
			for k := range parts(&a) {
				changed := own(a)
				x.change(parts(&changed)[k])
				p, b := New(), newBoth()
				if one, two := p.Put(a), p.Put(changed); (one == two) != x.same || tree.Like(a, changed) != x.same {
					t.Errorf("the node %d: %d, %d", k, one, two)
				}
				b.put(t, changed)
				b.put(t, a)
				b.put(t, changed)
			}
		})
	}
}

// 11.1, 11.2: pairs that would be one if lists or texts ran into each other.
func TestApart(t *testing.T) {
	notes := func(l ...string) api.Node { return api.Node{Notes: l} }
	tails := func(l ...string) api.Node { return api.Node{Tail: l} }
	for k, x := range [][2]api.Node{
		{tuple(atom("a"), atom("b")), tuple(atom("b"), atom("a"))},
		{tuple(atom("a"), atom("a")), tuple(atom("a"))},
		{tuple(tuple(atom("a")), atom("b")), tuple(tuple(atom("a"), atom("b")))},
		{tuple(atom("a"), tuple()), tuple(tuple(atom("a")))},
		{tuple(), tuple(tuple())},
		{tuple(atom("ab"), atom("c")), tuple(atom("a"), atom("bc"))},
		{tuple(), {Kind: api.NList}},
		{notes("%a", "%b"), notes("%b", "%a")},
		{notes("%a", "%b"), notes("%a%b")},
		{notes("%a", "%b"), notes("%a\n%b")},
		{notes("%a", "%b"), notes("%a\x00%b")},
		{notes("%a", "%a"), notes("%a")},
		{notes("%a", ""), notes("", "%a")},
		{notes(""), notes()},
		{notes("", ""), notes("")},
		{notes("%a"), tails("%a")},
		{notes("%a", "%b"), {Notes: []string{"%a"}, Tail: []string{"%b"}}},
		{{Notes: []string{"%a"}, Tail: []string{"%b", "%c"}}, {Notes: []string{"%a", "%b"}, Tail: []string{"%c"}}},
		{notes("%a"), {Text: "%a"}},
		{notes("1"), tuple(atom("1"))},
		{tails("%a", "%b"), tails("%a", "%c")},
		{tails("%a", "%b"), tails("%c", "%b")},
		{{Kind: api.NTuple, L: []api.Node{notes("%")}}, {Kind: api.NTuple, L: []api.Node{{}}, Notes: []string{"%"}}},
		{tuple(notes("%"), api.Node{}), tuple(api.Node{}, notes("%"))},
		{atom("é"), atom("e\u0301")},
		{atom("\xff"), atom("\xfe")},
		{atom("\xff"), atom("\ufffd")},
		{atom("a"), atom("A")},
		{atom("a"), atom("'a'")},
		{atom("1"), {Kind: 11}},
		{atom(""), {}},
	} {
		p, b := New(), newBoth()
		one, two := p.Put(x[0]), p.Put(x[1])
		if one == two || p.Put(x[0]) != one || p.Put(x[1]) != two {
			t.Errorf("pair %d: %d, %d", k, one, two)
		}
		for _, n := range []api.Node{x[0], x[1], tuple(x[0], x[1]), tuple(x[1], x[0]), x[1], x[0]} {
			b.put(t, n)
		}
	}
}

// few are all nodes that have these parts, with l in them.
func few(l []api.Node) []api.Node {
	var list []api.Node
	for k := range 1 << 7 {
		n := api.Node{Kind: k & 1, L: l, Break: k&2 != 0, Blank: k&4 != 0}
		if k&8 != 0 {
			n.Text = "%"
		}
		n.Notes = [][]string{nil, {"%"}, {""}, {"%", "%"}}[k>>4&3]
		n.Tail = [][]string{nil, {"%"}}[k>>6&1]
		list = append(list, n)
	}
	return list
}

// 11.1: all nodes of these parts in one pool, alone and in others, against the chapter's words read anew.
func TestParts(t *testing.T) {
	b := newBoth()
	alone := few(nil)
	for _, n := range alone {
		b.put(t, n)
	}
	if b.pool.Len() != len(alone)/2 {
		t.Fatal(b.pool.Len())
	}
	for _, x := range [][]api.Node{{}, {{}}, {{}, {}}, {atom("%")}, {{}, atom("%")}, {{Break: true}}} {
		for _, n := range few(x) {
			b.put(t, n)
		}
	}
}

// rows are all lists of trees of so many nodes together, all alike but for what is in what.
func rows(nodes int) [][]api.Node {
	if nodes == 0 {
		return [][]api.Node{nil}
	}
	var list [][]api.Node
	for first := range nodes {
		for _, l := range rows(first) {
			for _, others := range rows(nodes - 1 - first) {
				list = append(list, append([]api.Node{tuple(l...)}, others...))
			}
		}
	}
	return list
}

// 11.1, 11.2: all trees of up to eight nodes have numbers of their own, and the same ones again; in two orders.
func TestShapes(t *testing.T) {
	var all []api.Node
	for nodes := range 8 {
		for _, l := range rows(nodes) {
			all = append(all, tuple(l...))
		}
	}
	for range 2 {
		p, ids := New(), map[int]int{}
		for k, n := range all {
			id := p.Put(n)
			if before, found := ids[id]; found {
				t.Fatalf("%v, %v: %d", all[before], n, id)
			}
			if ids[id] = k; p.Size(id) != tree.Count(n) {
				t.Fatalf("%v: %d", n, p.Size(id))
			}
		}
		for id, k := range ids {
			if again := p.Put(own(all[k])); again != id {
				t.Fatalf("%v: %d, not %d", all[k], again, id)
			}
		}
		if len(all) != 1+1+2+5+14+42+132+429 || p.Len() != len(all) {
			t.Fatal(len(all), p.Len())
		}
		slices.Reverse(all)
	}
}

// some is a tree of some nodes, their parts by chance.
func some(r *rand.Rand, deep int) api.Node {
	text := func() string { return []string{"", "a", "b", "%a"}[r.Intn(4)] }
	n := api.Node{Kind: r.Intn(3), Text: text(), Break: r.Intn(3) == 0, Blank: r.Intn(5) == 0}
	for r.Intn(6) == 0 {
		n.Notes = append(n.Notes, text())
	}
	for r.Intn(6) == 0 {
		n.Tail = append(n.Tail, text())
	}
	for deep > 0 && r.Intn(3) > 0 {
		n.L = append(n.L, some(r, deep-1))
	}
	return n
}

// 11.1, 11.2, rule 3: trees of all kinds of parts in one pool, against the chapter's words read anew; a second pool gives the same numbers.
func TestSome(t *testing.T) {
	r := rand.New(rand.NewSource(11))
	for range 20 {
		b, again := newBoth(), New()
		var put []api.Node
		for range 30 {
			n := some(r, 4)
			if len(put) > 0 && r.Intn(2) == 0 { // one that is known in part
				n = own(put[r.Intn(len(put))])
				list := parts(&n)
				*list[r.Intn(len(list))] = some(r, 1)
			}
			b.put(t, n)
			if one, two := b.pool.Put(n), again.Put(own(n)); one != two || again.Len() != b.pool.Len() {
				t.Fatalf("%v: %d, %d", n, one, two)
			}
			put = append(put, n)
		}
		for _, x := range put {
			for _, y := range put {
				if like := b.pool.Put(x) == b.pool.Put(y); like != tree.Like(x, y) {
					t.Fatalf("%v, %v: %v", x, y, like)
				}
			}
		}
		b.hold(t)
	}
}

// Rule 7: kinds of all numbers, each one its own.
func TestKinds(t *testing.T) {
	kinds := []int{math.MinInt, math.MinInt32, -1, 1 << 8, 1 << 16, 1 << 32, math.MaxInt32, math.MaxInt}
	for k := range api.NNote + 2 {
		kinds = append(kinds, k)
	}
	p := New()
	for range 2 {
		for k, kind := range kinds {
			if id := p.Put(api.Node{Kind: kind}); id != k+1 {
				t.Errorf("kind %d: %d", kind, id)
			}
		}
	}
	if p.Len() != len(kinds) {
		t.Error(p.Len())
	}
}

// 11.1 Size: of no such number 0, wherever it is.
func TestNone(t *testing.T) {
	p := New()
	for range 2 {
		for _, id := range []int{math.MinInt, math.MinInt32, -3, -1, 0, 4, 5, 1<<32 + 1, math.MaxInt32, math.MaxInt} {
			if p.Size(id) != 0 {
				t.Errorf("Size(%d): %d", id, p.Size(id))
			}
		}
		p.Put(call("f", atom("a")))
	}
	if p.Len() != 3 {
		t.Error(p.Len()) // asking gives no numbers
	}
}

// 11.1: of nil 0; rule 1: a pool that New has not made is one without nodes.
func TestNobody(t *testing.T) {
	var nobody *Pool
	n := call("f", atom("a"), atom("a"))
	for range 2 {
		if id := nobody.Put(n); id != 0 || nobody.Len() != 0 {
			t.Error(id, nobody.Len())
		}
		for _, id := range []int{math.MinInt, -1, 0, 1, 3, math.MaxInt} {
			if nobody.Size(id) != 0 {
				t.Errorf("Size(%d): %d", id, nobody.Size(id))
			}
		}
	}
	var zero Pool
	if zero.Len() != 0 || zero.Size(0) != 0 || zero.Size(1) != 0 {
		t.Error(zero.Len(), zero.Size(0), zero.Size(1))
	}
	b := &both{pool: &zero}
	b.put(t, n)
	b.put(t, atom("a"))
	same := zero // a copy
	if id := same.Put(atom("b")); id != 4 || same.Size(4) != 1 {
		t.Error(id, same.Size(4))
	}
	if id := zero.Put(tuple(atom("b"))); id != 5 || zero.Size(5) != 2 || same.Put(tuple(atom("b"))) != 5 {
		t.Error(id, zero.Size(5))
	}
}

// Rule 3: pools know nothing of each other, and the same calls on each give the same answers.
func TestTwo(t *testing.T) {
	one, two := New(), New()
	if one == two {
		t.Fatal("the same pool")
	}
	a, b, c := tuple(atom("a")), tuple(atom("b"), atom("a")), atom("c")
	one.Put(c)
	if id := two.Put(a); id != 2 || one.Len() != 1 || two.Len() != 2 || one.Size(2) != 0 || two.Size(2) != 2 {
		t.Fatal(id, one.Len(), two.Len())
	}
	if x, y := one.Put(b), two.Put(b); x != 4 || y != 4 || one.Put(atom("b")) != 2 || two.Put(atom("b")) != 3 {
		t.Fatal(x, y)
	}
}

// Rule 2: what is handed in is not changed, and not kept: neither its lists nor the bytes of its texts.
func TestOwn(t *testing.T) {
	bytes := []byte("f%a%b")
	text := func(from, to int) string { return unsafe.String(&bytes[from], to-from) }
	made := func(name, note, tail string) api.Node {
		n := call(name, atom(name))
		n.L[1].Notes, n.Tail = []string{note, note}, []string{tail}
		return n
	}
	n := made(text(0, 1), text(1, 3), text(3, 5))
	p := New()
	if id := p.Put(n); id != 3 {
		t.Fatal(id)
	}
	copy(bytes, "xxxxx")
	for _, x := range parts(&n) {
		clear(x.Notes)
		clear(x.Tail)
		clear(x.L)
	}
	if id := p.Put(made("f", "%a", "%b")); id != 3 || p.Len() != 3 {
		t.Error(id, p.Len())
	}
	if id := p.Put(made("x", "xx", "xx")); id != 6 || p.Len() != 6 || p.Size(6) != 3 {
		t.Error(id, p.Len())
	}
	room := append([]string{}, "%a", "%b")
	items := []api.Node{atom("f"), atom("g")}
	p.Put(api.Node{L: items[:1], Notes: room[:1], Tail: room[:1]})
	if room[1] != "%b" || items[1].Text != "g" {
		t.Error(room, items)
	}
}

// Nothing is kept but what numbers were given for: what is known adds nothing.
func TestKept(t *testing.T) {
	p := New()
	p.Put(whole())
	nodes, lists, sizes := len(p.kept.nodes), len(p.kept.lists), len(p.kept.sizes)
	for _, x := range parts(&[]api.Node{whole()}[0]) {
		x.Break = !x.Break
		p.Put(*x)
	}
	if len(p.kept.nodes) != nodes || len(p.kept.lists) != lists || len(p.kept.sizes) != sizes || nodes != sizes {
		t.Error(len(p.kept.nodes), len(p.kept.lists), len(p.kept.sizes))
	}
}

// Rule 1: trees far deeper than a text has them, and of many nodes. The stack of calls is kept small, so that one that grew with the tree would break.
func TestGreat(t *testing.T) {
	const many = 100000
	defer debug.SetMaxStack(debug.SetMaxStack(1 << 20))
	deep, double := tuple(), tuple()
	for range many - 1 {
		deep = tuple(deep)
	}
	for range 18 {
		double = tuple(double, double)
	}
	same, others := api.Node{L: make([]api.Node, many)}, api.Node{L: make([]api.Node, many)}
	for k := range others.L {
		others.L[k] = api.Node{Notes: []string{fmt.Sprint("%", k)}}
	}
	for _, x := range []struct {
		name      string
		n         api.Node
		len, size int
	}{
		{"deep", deep, many, many},
		{"deep, with others", call("f", atom("a"), deep, atom("b"), deep), many + 4, 2*many + 4},
		{"many alike", same, 2, many + 1},
		{"many others", others, many + 1, many + 1},
		{"twice two", double, 19, 1<<19 - 1},
	} {
		t.Run(x.name, func(t *testing.T) {
			p := New()
			for range 2 {
				if id := p.Put(x.n); id != x.len || p.Len() != x.len || p.Size(id) != x.size {
					t.Error(id, p.Len(), p.Size(id))
				}
			}
		})
	}
}
