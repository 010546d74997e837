package low

import (
	"math/rand"
	"strconv"
	"strings"

	"galley/api"
)

// grower makes trees by chance, of the sort that 13 makes: each comment is another one.
type grower struct {
	*rand.Rand
	comments int // in how many of 16 places where comments may stand there are some
	notes    int // how many comments there are
}

func (g *grower) pick(list string) string {
	l := strings.Fields(list)
	return l[g.Intn(len(l))]
}

// one tells with a chance of n in 16.
func (g *grower) one(n int) bool { return g.Intn(16) < n }

// some are the comments at a place where there may be some.
func (g *grower) some() []string {
	if !g.one(g.comments) {
		return nil
	}
	var l []string
	for range 1 + g.Intn(2) {
		g.notes++
		l = append(l, "%"+strconv.Itoa(g.notes))
	}
	return l
}

const (
	someLits  = "a X _ ?M ??M 1 16#FF 1.5 $a $\\n \"a\" \"\" 'a-b' f_long_name Another_long_name 'end'"
	someOps   = ":: | = ! = orelse andalso == =< =/= ++ -- ++ + - bor xor * / / div and"
	someNames = "r r2 'r' ?R R"
)

func (g *grower) lit() api.Node {
	return api.Node{Kind: api.NLit, Text: g.pick(someLits)}
}

// items are up to most items, each with comments or without.
func (g *grower) items(least, most int, one func() api.Node) []api.Node {
	var l []api.Node
	for range least + g.Intn(most-least+1) {
		x := one()
		x.Notes = g.some()
		l = append(l, x)
	}
	return l
}

// container gives n its flags.
func (g *grower) container(n api.Node, l []api.Node) api.Node {
	n.L, n.Break, n.Tail = append(n.L, l...), g.one(2), g.some()
	return n
}

// below makes expressions of fewer levels.
func (g *grower) below(deep int) func() api.Node {
	return func() api.Node { return g.expr(g.Intn(deep)) }
}

// pair makes items of a map.
func (g *grower) pair(deep int) func() api.Node {
	one := g.below(deep)
	return func() api.Node {
		if g.one(4) {
			return one()
		}
		return api.Node{Kind: api.NOp, Text: g.pick("=> :="), L: []api.Node{one(), one()}}
	}
}

// segment makes items of << >>.
func (g *grower) segment(deep int) func() api.Node {
	one := g.below(deep)
	return func() api.Node {
		if g.one(8) {
			return one()
		}
		return api.Node{Kind: api.NSeg, Text: g.pick(":8 :X /a :?M/a-b /'a' :16#F"), L: []api.Node{one()}}
	}
}

// body is what a clause does.
func (g *grower) body(deep int) api.Node {
	l := g.items(1, 1+g.Intn(3), g.below(deep))
	for k := range l {
		l[k].Blank = k > 0 && g.one(5)
	}
	return api.Node{Kind: api.NBody, L: l}
}

// guard are that many alternatives.
func (g *grower) guard(deep, least, most int) api.Node {
	n := api.Node{Kind: api.NGuard}
	one := g.below(deep)
	for range least + g.Intn(most-least+1) {
		x := api.Node{Kind: api.NBody, L: []api.Node{one()}}
		for g.one(5) {
			x.L = append(x.L, one())
		}
		n.L = append(n.L, x)
	}
	return n
}

// clause makes clauses of what is named so.
func (g *grower) clause(deep int, of string) func() api.Node {
	return func() api.Node {
		args, guard := api.Node{Kind: api.NArgs}, g.guard(deep, 0, 2)
		switch of {
		case "case":
			args.L = []api.Node{g.below(deep)()}
		case "after":
			args.L = []api.Node{g.below(deep)()}
			guard = api.Node{Kind: api.NGuard}
		case "if":
			guard = g.guard(deep, 1, 2)
		case "fun":
			args = g.container(args, g.items(0, 3, g.below(deep)))
		}
		return api.Node{Kind: api.NClause, Break: g.one(3), L: []api.Node{args, guard, g.body(deep)}}
	}
}

// comp is a list with qualifiers.
func (g *grower) comp(deep int) api.Node {
	one := g.below(deep)
	n := api.Node{Kind: api.NComp, Break: g.one(3), L: []api.Node{one()}}
	for range 1 + g.Intn(3) {
		x := one()
		if g.one(9) {
			x = api.Node{Kind: api.NOp, Text: g.pick("<- <="), L: []api.Node{x, one()}}
		}
		n.L = append(n.L, x)
	}
	return n
}

// receive has clauses, after, or both.
func (g *grower) receive(deep int) api.Node {
	n := api.Node{Kind: api.NReceive, Tail: g.some()}
	if g.one(8) {
		n.Text = "after"
	}
	if n.Text == "" || g.one(12) {
		n.L = g.items(1, 3, g.clause(deep, "case"))
	}
	if n.Text != "" {
		n.L = append(n.L, g.items(1, 1, g.clause(deep, "after"))...)
	}
	return n
}

// fun has one clause or several, the first one without comments.
func (g *grower) fun(deep int) api.Node {
	n := api.Node{Kind: api.NFun, L: g.items(1, 1+g.Intn(3), g.clause(deep, "fun")), Tail: g.some()}
	n.L[0].Notes = nil
	return n
}

// row is a chain of operators to the right, of one level or of several.
func (g *grower) row(deep int) api.Node {
	list := g.pick("=,! ::,= orelse ++,-- +,++ =,=,=")
	n := g.below(deep)()
	for range 1 + g.Intn(4) {
		l := strings.Split(list, ",")
		n = api.Node{Kind: api.NOp, Text: l[g.Intn(len(l))], L: []api.Node{g.below(deep)(), n}}
	}
	return n
}

// expr is an expression of at most so many levels.
func (g *grower) expr(deep int) api.Node {
	if deep == 0 {
		return g.lit()
	}
	one := g.below(deep)
	first := func(kind int, text string) api.Node {
		return api.Node{Kind: kind, Text: text, L: []api.Node{one()}}
	}
	made := func(kind int, text string) api.Node { return api.Node{Kind: kind, Text: text} }
	switch g.Intn(28) {
	case 0:
		return made(api.NRef, g.pick("f/1 m:f/2 ?M:F/?A"))
	case 1, 2, 3:
		return g.container(first(api.NCall, ""), g.items(0, 4, one))
	case 4:
		return api.Node{Kind: api.NRemote, L: []api.Node{one(), one()}}
	case 5, 6:
		return g.container(made(api.NTuple, ""), g.items(0, 4, one))
	case 7:
		return g.container(made(api.NList, ""), g.items(0, 4, one))
	case 8:
		return g.container(made(api.NList, "|"), append(g.items(1, 3, one), one()))
	case 9:
		return g.container(made(api.NBin, ""), g.items(0, 3, g.segment(deep)))
	case 10:
		return g.container(made(api.NMap, ""), g.items(0, 3, g.pair(deep)))
	case 11:
		return g.container(first(api.NMapUp, ""), g.items(0, 3, g.pair(deep)))
	case 12:
		return g.container(made(api.NRec, g.pick(someNames)), g.items(0, 3, one))
	case 13:
		return g.container(first(api.NRecUp, g.pick(someNames)), g.items(0, 3, one))
	case 14:
		return first(api.NField, g.pick("r.f r.'f' ?R.f"))
	case 15, 16:
		return first(api.NUn, g.pick("+ - - not bnot catch"))
	case 17, 18, 19, 20:
		return api.Node{Kind: api.NOp, Text: g.pick(someOps), L: []api.Node{one(), one()}}
	case 21:
		return g.row(deep)
	case 22:
		return g.comp(deep)
	case 23:
		return api.Node{Kind: api.NCase, L: append([]api.Node{one()}, g.items(1, 3, g.clause(deep, "case"))...), Tail: g.some()}
	case 24:
		return api.Node{Kind: api.NIf, L: g.items(1, 3, g.clause(deep, "if")), Tail: g.some()}
	case 25:
		return g.receive(deep)
	case 26:
		return api.Node{Kind: api.NBegin, L: []api.Node{g.body(deep)}, Tail: g.some()}
	default:
		return g.fun(deep)
	}
}
