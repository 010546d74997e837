package shape

import (
	"slices"
	"strconv"
	"strings"

	"galley/api"
	"galley/parse"
)

// The chapter's words read anew: of tokens from one place up to another one, all derivations that there are, side by side. Nothing is chosen by what comes next, each place where something may end is tried, so it shows where there would be two. Expressions alone are read by parse, each as all of the tokens between two places.

type reading struct {
	s string
	l []api.Token
}

// way is how tokens from one place up to another one may be read.
type way func(from, to int) []api.Node

// is tells whether the token k is that one.
func (g reading) is(k, kind int, text string) bool {
	return k >= 0 && k < len(g.l) && g.l[k].Kind == kind && g.l[k].Text == text
}

func (g reading) newline(k int) bool {
	return strings.Contains(g.s[g.l[k-1].At+len(g.l[k-1].Text):g.l[k].At], "\n")
}

func (g reading) blankLine(k int) bool {
	return strings.Count(g.s[g.l[k-1].At+len(g.l[k-1].Text):g.l[k].At], "\n") > 1
}

// comments are the tokens from one place up to another one, if all of them are comments.
func (g reading) comments(from, to int) (list []string, ok bool) {
	for _, t := range g.l[from:to] {
		if t.Kind != api.TComment {
			return nil, false
		}
		list = append(list, t.Text)
	}
	return list, true
}

func (g reading) level(level int) way {
	return func(from, to int) []api.Node {
		if n, at, e := parse.Expr(g.s, g.l, from, to, level); e == api.OK && at == to {
			return []api.Node{n}
		}
		return nil
	}
}

// item is what read reads, with comments ahead, and perhaps a blank line.
func (g reading) item(read way, blank bool) way {
	return func(from, to int) (list []api.Node) {
		for at := from; at < to; at++ {
			notes, ok := g.comments(from, at)
			if !ok {
				break
			}
			for _, n := range read(at, to) {
				n.Notes, n.Blank = notes, blank && g.blankLine(from)
				list = append(list, n)
			}
		}
		return list
	}
}

// rows are rows of at least one, with that sign between: the first one, the others.
func (g reading) rows(from, to int, between string, first, other way) (list [][]api.Node) {
	for end := from + 1; end <= to; end++ {
		if end < to && !g.is(end, api.TSign, between) {
			continue
		}
		for _, n := range first(from, end) {
			if end == to {
				list = append(list, []api.Node{n})
				continue
			}
			for _, l := range g.rows(end+1, to, between, other, other) {
				list = append(list, slices.Concat([]api.Node{n}, l))
			}
		}
	}
	return list
}

func (g reading) args(from, to int) (list []api.Node) {
	if to-from < 2 || !g.is(from, api.TSign, "(") || !g.is(to-1, api.TSign, ")") {
		return nil
	}
	for at := from + 1; at < to; at++ {
		tail, ok := g.comments(at, to-1)
		if !ok {
			continue
		}
		n := api.Node{Kind: api.NArgs, Break: g.newline(from + 1), Tail: tail}
		if at == from+1 {
			list = append(list, n)
		}
		item := g.item(g.level(0), false)
		for _, n.L = range g.rows(from+1, at, ",", item, item) {
			list = append(list, n)
		}
	}
	return list
}

func (g reading) guard(from, to int) (list []api.Node) {
	if from == to {
		return []api.Node{{Kind: api.NGuard}}
	}
	if !g.is(from, api.TWord, "when") {
		return nil
	}
	alternative := func(from, to int) (list []api.Node) {
		for _, l := range g.rows(from, to, ",", g.level(1), g.level(1)) {
			list = append(list, api.Node{Kind: api.NBody, L: l})
		}
		return list
	}
	for _, l := range g.rows(from+1, to, ";", alternative, alternative) {
		list = append(list, api.Node{Kind: api.NGuard, L: l})
	}
	return list
}

func (g reading) body(from, to int) (list []api.Node) {
	for _, l := range g.rows(from, to, ",", g.item(g.level(0), false), g.item(g.level(0), true)) {
		list = append(list, api.Node{Kind: api.NBody, L: l})
	}
	return list
}

// told is the one expression of a spec, as a body.
func (g reading) told(from, to int) (list []api.Node) {
	for _, n := range g.level(0)(from, to) {
		list = append(list, api.Node{Kind: api.NBody, L: []api.Node{n}})
	}
	return list
}

// clause are the clauses whose name is of one of the kinds, with that guard, and that behind the arrow.
func (g reading) clause(guard, body way, kinds ...int) way {
	return func(from, to int) (list []api.Node) {
		if from >= to || !slices.Contains(kinds, g.l[from].Kind) {
			return nil
		}
		for arrow := from; arrow < to; arrow++ {
			if !g.is(arrow, api.TSign, "->") {
				continue
			}
			for at := from + 1; at <= arrow; at++ {
				for _, x := range g.args(from+1, at) {
					for _, y := range guard(at, arrow) {
						for _, z := range body(arrow+1, to) {
							list = append(list, api.Node{Kind: api.NClause, Text: g.l[from].Text, L: []api.Node{x, y, z}, Break: g.newline(arrow + 1)})
						}
					}
				}
			}
		}
		return list
	}
}

func (g reading) function(from, to int) (list []api.Node) {
	one := g.clause(g.guard, g.body, api.TAtom, api.TMacro)
	for _, l := range g.rows(from, to, ";", one, g.item(one, false)) {
		list = append(list, api.Node{Kind: api.NFunc, L: l})
	}
	return list
}

func (g reading) spec(from, to int) (list []api.Node) {
	none := func(from, to int) []api.Node {
		if from == to {
			return []api.Node{{Kind: api.NGuard}}
		}
		return nil
	}
	for _, name := range []string{"spec", "callback"} {
		if g.is(from, api.TSign, "-") && g.is(from+1, api.TAtom, name) {
			for _, n := range g.clause(none, g.told, api.TAtom)(from+2, to) {
				list = append(list, api.Node{Kind: api.NSpec, Text: name, L: []api.Node{n}})
			}
		}
	}
	return list
}

func (g reading) attribute(from, to int) (list []api.Node) {
	if to-from < 2 || !g.is(from, api.TSign, "-") || g.l[from+1].Kind != api.TAtom && !g.is(from+1, api.TWord, "if") {
		return nil
	}
	n := api.Node{Kind: api.NAttr, Text: g.l[from+1].Text}
	if to-from == 2 {
		return []api.Node{n}
	}
	of := g.args
	if !g.is(from+2, api.TSign, "(") {
		of = g.level(1)
	}
	for _, x := range of(from+2, to) {
		n.L = []api.Node{x}
		list = append(list, n)
	}
	return list
}

// form is 14.1 of the tokens of a form, and how many derivations there are.
func (g reading) form(x api.Item) (api.Node, int) {
	raw := api.Node{Kind: api.NRaw, Text: g.s[g.l[x.From].At : g.l[x.To-1].At+len(g.l[x.To-1].Text)], Blank: x.Blank}
	if g.l[x.To-1].Kind != api.TDot {
		return raw, 0
	}
	var list []api.Node
	for _, read := range []way{g.function, g.spec, g.attribute} {
		list = append(list, read(x.From, x.To-1)...)
	}
	if len(list) == 0 {
		return raw, 0
	}
	list[0].Blank = x.Blank
	return list[0], len(list)
}

// spell is all of n as one text, another one for each tree.
func spell(n api.Node) string {
	if n.Kind == api.NLit && !n.Break && !n.Blank && len(n.L)+len(n.Notes)+len(n.Tail) == 0 {
		return n.Text
	}
	s := names()[n.Kind] + n.Text
	if n.Kind == api.NRaw || n.Kind == api.NNote {
		s = names()[n.Kind] + strconv.Quote(n.Text)
	}
	if n.Break {
		s += " break"
	}
	if n.Blank {
		s += " blank"
	}
	for _, x := range n.Notes {
		s += " note" + strconv.Quote(x)
	}
	s += "("
	for k, x := range n.L {
		if k > 0 {
			s += " "
		}
		s += spell(x)
	}
	s += ")"
	for _, x := range n.Tail {
		s += " tail" + strconv.Quote(x)
	}
	return s
}

// names are the kinds of nodes by their numbers.
func names() []string {
	return strings.Fields(". Lit Call Remote Tuple List Bin Seg Map MapUp Rec RecUp Field Un Op Comp Ref Fun Case If Receive Begin Clause Args Guard Body Attr Spec Func Raw Note")
}
