package parse

import (
	"slices"
	"strconv"
	"strings"
	"unicode"

	"galley/api"
)

// The chapter's words read anew: all derivations that there are, of whatever length, side by side. Nothing is chosen by what comes next, so it shows where there would be two, and what may come next where the tokens end.

// part is something that was read: its node, the place behind it, and, of an operand or operators, the level.
type part struct {
	n          api.Node
	end, level int
	stood      bool
}

// reading is all that can be read of tokens.
type reading struct {
	s      string
	l      []api.Token
	wanted map[api.Token]bool // what may come next behind the last one; of a kind with any text the text is ""
	memo   map[[3]int][]part
}

func readAnew(s string, l []api.Token) *reading {
	return &reading{s, l, map[api.Token]bool{}, map[[3]int][]part{}}
}

// ends are where a sign or word ends that is that text.
func (g *reading) ends(i int, text string) []int {
	kind := api.TSign
	if unicode.IsLetter(rune(text[0])) {
		kind = api.TWord
	}
	if i == len(g.l) {
		g.wanted[api.Token{Kind: kind, Text: text}] = true
		return nil
	}
	if g.l[i].Kind == kind && g.l[i].Text == text {
		return []int{i + 1}
	}
	return nil
}

// ofKind is where a token of one of the kinds ends.
func (g *reading) ofKind(i int, kinds ...int) []int {
	if i == len(g.l) {
		for _, k := range kinds {
			g.wanted[api.Token{Kind: k}] = true
		}
		return nil
	}
	if slices.Contains(kinds, g.l[i].Kind) {
		return []int{i + 1}
	}
	return nil
}

func (g *reading) lits(i int, kinds ...int) (list []part) {
	for _, e := range g.ofKind(i, kinds...) {
		list = append(list, part{n: api.Node{Kind: api.NLit, Text: g.l[i].Text}, end: e})
	}
	return list
}

// comments are those that begin at i, all of them, and the place behind.
func (g *reading) comments(i int) ([]string, int) {
	var list []string
	for i < len(g.l) && g.l[i].Kind == api.TComment {
		list = append(list, g.l[i].Text)
		i++
	}
	g.ofKind(i, api.TComment)
	return list, i
}

// newlines are how many stand ahead of the token i.
func (g *reading) newlines(i int) int {
	if i == 0 || i >= len(g.l) {
		return 0
	}
	return strings.Count(g.s[g.l[i-1].At+len(g.l[i-1].Text):g.l[i].At], "\n")
}

func (g *reading) words(from, to int) string {
	s := ""
	for _, t := range g.l[from:to] {
		s += t.Text
	}
	return s
}

// once has f read what the two numbers name at i, but once for each.
func (g *reading) once(what, level, i int, f func() []part) []part {
	key := [3]int{what, level, i}
	if list, ok := g.memo[key]; ok {
		return list
	}
	list := f()
	g.memo[key] = list
	return list
}

// one is a way to read something at a place.
type one func(i int) []part

// behind are all parts of then that stand behind a text.
func (g *reading) behind(i int, text string, then one) (list []part) {
	for _, e := range g.ends(i, text) {
		list = append(list, then(e)...)
	}
	return list
}

// ahead are all parts behind which a text stands, with it.
func (g *reading) ahead(l []part, text string) (list []part) {
	for _, x := range l {
		for _, e := range g.ends(x.end, text) {
			x.end = e
			list = append(list, x)
		}
	}
	return list
}

// more are all parts of l with all those of then behind each, put together by with.
func more(l []part, then one, with func(x, y part) api.Node) (list []part) {
	for _, x := range l {
		for _, y := range then(x.end) {
			list = append(list, part{n: with(x, y), end: y.end})
		}
	}
	return list
}

// joined is x's node with y's in it, behind the others.
func joined(x, y part) api.Node {
	x.n.L = append(slices.Clone(x.n.L), y.n)
	return x.n
}

// spread is x's node with all of those in y's in it, behind the others.
func spread(x, y part) api.Node {
	x.n.L = slices.Concat(x.n.L, y.n.L)
	x.n.Tail = y.n.Tail
	x.n.Break = x.n.Break || y.n.Break
	return x.n
}

func operator(text string) func(x, y part) api.Node {
	return func(x, y part) api.Node {
		return api.Node{Kind: api.NOp, Text: text, L: []api.Node{x.n, y.n}}
	}
}

// rows are all rows of what read reads with that text between, as the L of a node of no kind.
func (g *reading) rows(i int, between string, read func(first bool) one) []part {
	var open []part
	for _, x := range read(true)(i) {
		open = append(open, part{n: api.Node{L: []api.Node{x.n}}, end: x.end})
	}
	var list []part
	for len(open) > 0 {
		list = append(list, open...)
		open = more(open, func(i int) []part { return g.behind(i, between, read(false)) }, joined)
	}
	return list
}

// same is for rows in which the first one is as the others.
func same(read one) func(bool) one {
	return func(bool) one { return read }
}

// item is what read reads, with the comments ahead.
func (g *reading) item(read one) one {
	return func(i int) (list []part) {
		notes, at := g.comments(i)
		for _, x := range read(at) {
			x.n.Notes = notes
			list = append(list, x)
		}
		return list
	}
}

// closed are all of l, with the comments ahead of text as their Tail, and text.
func (g *reading) closed(l []part, text string) (list []part) {
	for _, x := range l {
		tail, at := g.comments(x.end)
		x.n.Tail = tail
		for _, e := range g.ends(at, text) {
			x.end = e
			list = append(list, x)
		}
	}
	return list
}

// box is a container: n with items.
func (g *reading) box(i int, n api.Node, open, end string, read one) (list []part) {
	for _, e := range g.ends(i, open) {
		n.Break = g.newlines(e) > 0
		start := part{n: n, end: e}
		inner := append([]part{{end: e}}, g.rows(e, ",", same(g.item(read)))...)
		for _, x := range g.closed(inner, end) {
			list = append(list, part{n: spread(start, x), end: x.end})
		}
	}
	return list
}

// level is 13.1.
func (g *reading) level(level int) one {
	return func(i int) []part {
		return g.once(1, level, i, func() []part { return g.leveled(level, i) })
	}
}

// table is chapter 9's list: which operators are of a level, and the levels that the left and the right operand have at least.
func table() map[int][]string {
	return map[int][]string{1: {"::"}, 2: {"|"}, 3: {"=", "!"}, 4: {"orelse"}, 5: {"andalso"}, 6: strings.Fields("== /= =< < >= > =:= =/="), 7: {"++", "--"}, 8: strings.Fields("+ - bor bxor bsl bsr or xor"), 9: strings.Fields("* / div rem band and")}
}

func sides(own int) (left, right int) {
	switch own {
	case 2, 8, 9:
		return own, own + 1
	case 6:
		return own + 1, own + 1
	}
	return own + 1, own
}

func (g *reading) leveled(level, i int) (list []part) {
	if level <= 0 {
		list = append(list, g.level(1)(i)...)
		for _, x := range g.behind(i, "catch", g.level(0)) {
			x.n = api.Node{Kind: api.NUn, Text: "catch", L: []api.Node{x.n}}
			list = append(list, x)
		}
		return list
	}
	list = slices.Clone(g.operand(i))
	if level > 9 {
		return list
	}
	ops := table()
	for at := 0; at < len(list); at++ {
		x := list[at]
		for own := level; own <= 9; own++ {
			left, right := sides(own)
			if x.level < left {
				continue
			}
			for _, op := range ops[own] {
				for _, y := range more([]part{x}, func(i int) []part { return g.behind(i, op, g.level(right)) }, operator(op)) {
					y.level = own
					list = append(list, y)
				}
			}
		}
	}
	return list
}

func (g *reading) operand(i int) []part {
	return g.once(2, 0, i, func() (list []part) {
		for _, op := range []string{"+", "-", "not", "bnot"} {
			for _, x := range g.behind(i, op, g.operand) {
				list = append(list, part{n: api.Node{Kind: api.NUn, Text: op, L: []api.Node{x.n}}, end: x.end, level: 10})
			}
		}
		list = append(list, g.follow(g.primary(i))...)
		return list
	})
}

// follow are all of l with as many behind them as may follow.
func (g *reading) follow(l []part) []part {
	for at := 0; at < len(l); at++ {
		x := l[at]
		l[at].level = 11
		bare := slices.Contains([]int{api.NCall, api.NRemote, api.NMap, api.NMapUp, api.NRec, api.NRecUp, api.NField}, x.n.Kind)
		lit := x.n.Kind == api.NLit && !strings.ContainsAny(x.n.Text[:1], `0123456789$"`)
		if !x.stood && !bare && !lit {
			continue
		}
		of := []api.Node{x.n}
		l = append(l, g.box(x.end, api.Node{Kind: api.NCall, L: of}, "(", ")", g.level(0))...)
		for _, e := range g.ends(x.end, "#") {
			l = append(l, g.box(e, api.Node{Kind: api.NMapUp, L: of}, "{", "}", g.pair)...)
			for _, name := range g.ofKind(e, api.TAtom, api.TVar, api.TMacro) {
				l = append(l, g.box(name, api.Node{Kind: api.NRecUp, Text: g.l[e].Text, L: of}, "{", "}", g.level(0))...)
				for _, point := range g.ends(name, ".") {
					for _, end := range g.ofKind(point, api.TAtom) {
						l = append(l, part{n: api.Node{Kind: api.NField, Text: g.words(e, end), L: of}, end: end})
					}
				}
			}
		}
		if lit || x.stood {
			for _, e := range g.ends(x.end, ":") {
				name := append(g.lits(e, api.TAtom, api.TVar, api.TMacro), g.ahead(g.behind(e, "(", g.level(0)), ")")...)
				for _, y := range name {
					l = append(l, part{n: api.Node{Kind: api.NRemote, L: []api.Node{x.n, y.n}}, end: y.end})
				}
			}
		}
	}
	return l
}

func (g *reading) perhaps(level int, texts ...string) one {
	return func(i int) []part {
		list := slices.Clone(g.level(level)(i))
		for _, text := range texts {
			list = append(list, more(g.level(level)(i), func(i int) []part { return g.behind(i, text, g.level(level)) }, operator(text))...)
		}
		return list
	}
}

func (g *reading) pair(i int) []part { return g.perhaps(1, "=>", ":=")(i) }

func (g *reading) primary(i int) []part {
	list := g.lits(i, api.TAtom, api.TVar, api.TInt, api.TFloat, api.TChar, api.TString, api.TMacro)
	for _, x := range g.ahead(g.behind(i, "(", g.level(0)), ")") {
		x.stood = true
		list = append(list, x)
	}
	list = append(list, g.box(i, api.Node{Kind: api.NTuple}, "{", "}", g.level(0))...)
	list = append(list, g.list(i)...)
	list = append(list, g.bin(i)...)
	for _, e := range g.ends(i, "#") {
		list = append(list, g.box(e, api.Node{Kind: api.NMap}, "{", "}", g.pair)...)
		for _, name := range g.ofKind(e, api.TAtom, api.TVar, api.TMacro) {
			list = append(list, g.box(name, api.Node{Kind: api.NRec, Text: g.l[e].Text}, "{", "}", g.level(0))...)
		}
	}
	return slices.Concat(list, g.fun(i), g.words2(i))
}

func (g *reading) list(i int) []part {
	list := g.box(i, api.Node{Kind: api.NList}, "[", "]", g.level(3))
	for _, e := range g.ends(i, "[") {
		brk := g.newlines(e) > 0
		rows := g.rows(e, ",", same(g.item(g.level(3))))
		tailed := more(rows, func(i int) []part { return g.behind(i, "|", g.level(3)) }, joined)
		for _, x := range g.closed(tailed, "]") {
			x.n.Kind, x.n.Text, x.n.Break = api.NList, "|", brk
			list = append(list, x)
		}
		comp := more(g.level(3)(e), func(i int) []part {
			return g.behind(i, "||", func(i int) []part { return g.rows(i, ",", same(g.perhaps(3, "<-", "<="))) })
		}, func(x, y part) api.Node {
			return api.Node{Kind: api.NComp, Break: brk, L: append([]api.Node{x.n}, y.n.L...)}
		})
		list = append(list, g.ahead(comp, "]")...)
	}
	return list
}

func (g *reading) bin(i int) []part {
	return g.once(3, 0, i, func() []part {
		return g.box(i, api.Node{Kind: api.NBin}, "<<", ">>", g.segment)
	})
}

func (g *reading) segment(i int) (list []part) {
	values := g.lits(i, api.TAtom, api.TVar, api.TInt, api.TFloat, api.TChar, api.TString, api.TMacro)
	values = slices.Concat(values, g.ahead(g.behind(i, "(", g.level(0)), ")"), g.bin(i))
	for _, x := range values {
		sized := []int{x.end}
		for _, e := range g.ends(x.end, ":") {
			sized = append(sized, g.ofKind(e, api.TInt, api.TVar, api.TMacro)...)
		}
		all := slices.Clone(sized)
		for _, e := range sized {
			for next := g.ends(e, "/"); len(next) > 0; {
				next = g.ofKind(next[0], api.TAtom)
				all = append(all, next...)
				if len(next) > 0 {
					next = g.ends(next[0], "-")
				}
			}
		}
		for _, e := range all {
			n := x.n
			if e > x.end {
				n = api.Node{Kind: api.NSeg, Text: g.words(x.end, e), L: []api.Node{x.n}}
			}
			list = append(list, part{n: n, end: e})
		}
	}
	return list
}

func (g *reading) fun(i int) (list []part) {
	for _, f := range g.ends(i, "fun") {
		clauses := g.rows(f, ";", func(first bool) one {
			read := func(i int) []part {
				return g.clause(g.guarded(g.box(i, api.Node{Kind: api.NArgs}, "(", ")", g.level(0))))
			}
			if first {
				return read
			}
			return g.item(read)
		})
		list = append(list, g.whole(api.Node{Kind: api.NFun}, clauses)...)
		heads := g.ofKind(f, api.TAtom, api.TVar, api.TMacro)
		for _, e := range slices.Clone(heads) {
			for _, e := range g.ends(e, ":") {
				heads = append(heads, g.ofKind(e, api.TAtom, api.TVar, api.TMacro)...)
			}
		}
		for _, e := range heads {
			for _, e := range g.ends(e, "/") {
				for _, e := range g.ofKind(e, api.TInt, api.TVar, api.TMacro) {
					list = append(list, part{n: api.Node{Kind: api.NRef, Text: g.words(f, e)}, end: e})
				}
			}
		}
	}
	return list
}

// whole are nodes as n with what is in those of l, up to their end.
func (g *reading) whole(n api.Node, l []part) (list []part) {
	for _, x := range g.closed(l, "end") {
		list = append(list, part{n: spread(part{n: n}, x), end: x.end})
	}
	return list
}

// words2 are the primaries that begin with a word, but fun.
func (g *reading) words2(i int) (list []part) {
	for _, asked := range g.ahead(g.behind(i, "case", g.level(0)), "of") {
		n := api.Node{Kind: api.NCase, L: []api.Node{asked.n}}
		list = append(list, g.whole(n, g.clauses(asked.end))...)
	}
	for _, e := range g.ends(i, "if") {
		clauses := g.rows(e, ";", same(g.item(func(i int) []part {
			return g.clause(more([]part{{n: api.Node{L: []api.Node{{Kind: api.NArgs}}}, end: i}}, g.guard, joined))
		})))
		list = append(list, g.whole(api.Node{Kind: api.NIf}, clauses)...)
	}
	for _, e := range g.ends(i, "receive") {
		clauses := g.clauses(e)
		list = append(list, g.whole(api.Node{Kind: api.NReceive}, clauses)...)
		after := more(append(clauses, part{end: e}), g.item(g.after), joined)
		list = append(list, g.whole(api.Node{Kind: api.NReceive, Text: "after"}, after)...)
	}
	for _, e := range g.ends(i, "begin") {
		for _, x := range g.body(e) {
			x.n = api.Node{L: []api.Node{x.n}}
			list = append(list, g.whole(api.Node{Kind: api.NBegin}, []part{x})...)
		}
	}
	return list
}

func (g *reading) after(i int) []part {
	var heads []part
	for _, x := range g.behind(i, "after", g.level(1)) {
		l := []api.Node{{Kind: api.NArgs, L: []api.Node{x.n}}, {Kind: api.NGuard}}
		heads = append(heads, part{n: api.Node{L: l}, end: x.end})
	}
	return g.clause(heads)
}

// clauses is 13.4.
func (g *reading) clauses(i int) []part {
	return g.rows(i, ";", same(g.item(func(i int) []part {
		var args []part
		for _, x := range g.level(1)(i) {
			args = append(args, part{n: api.Node{Kind: api.NArgs, L: []api.Node{x.n}}, end: x.end})
		}
		return g.clause(g.guarded(args))
	})))
}

// guarded are the arguments of a clause, and its guard, as the L of a node.
func (g *reading) guarded(args []part) (list []part) {
	for _, x := range args {
		head := part{n: api.Node{L: []api.Node{x.n}}, end: x.end}
		list = append(list, part{n: joined(head, part{n: api.Node{Kind: api.NGuard}}), end: x.end})
		list = append(list, more([]part{head}, func(i int) []part { return g.behind(i, "when", g.guard) }, joined)...)
	}
	return list
}

func (g *reading) guard(i int) (list []part) {
	for _, x := range g.rows(i, ";", same(func(i int) (list []part) {
		for _, x := range g.rows(i, ",", same(g.level(1))) {
			x.n.Kind = api.NBody
			list = append(list, x)
		}
		return list
	})) {
		x.n.Kind = api.NGuard
		list = append(list, x)
	}
	return list
}

// clause are the clauses that begin with heads.
func (g *reading) clause(heads []part) (list []part) {
	for _, x := range g.ahead(heads, "->") {
		for _, y := range g.body(x.end) {
			n := api.Node{Kind: api.NClause, L: append(slices.Clone(x.n.L), y.n), Break: g.newlines(x.end) > 0}
			list = append(list, part{n: n, end: y.end})
		}
	}
	return list
}

// body is 13.3.
func (g *reading) body(i int) (list []part) {
	for _, x := range g.rows(i, ",", func(first bool) one {
		return func(i int) (list []part) {
			for _, x := range g.item(g.level(0))(i) {
				x.n.Blank = !first && g.newlines(i) > 1
				list = append(list, x)
			}
			return list
		}
	}) {
		x.n.Kind = api.NBody
		list = append(list, x)
	}
	return list
}

// spell is all of n as one text, another one for each tree.
func spell(n api.Node) string {
	if n.Kind == api.NLit && !n.Break && !n.Blank && len(n.L)+len(n.Notes)+len(n.Tail) == 0 {
		return n.Text
	}
	s := names()[n.Kind] + n.Text
	if n.Break {
		s += " break"
	}
	if n.Blank {
		s += " blank"
	}
	for _, x := range n.Notes {
		s += " note" + strconv.Quote(x)
	}
	s += "("
	for k, x := range n.L {
		if k > 0 {
			s += " "
		}
		s += spell(x)
	}
	s += ")"
	for _, x := range n.Tail {
		s += " tail" + strconv.Quote(x)
	}
	return s
}

// names are the kinds of nodes by their numbers.
func names() []string {
	return strings.Fields(". Lit Call Remote Tuple List Bin Seg Map MapUp Rec RecUp Field Un Op Comp Ref Fun Case If Receive Begin Clause Args Guard Body Attr Spec Func Raw Note")
}
