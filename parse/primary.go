package parse

import (
	"galley/api"
	"galley/sign"
)

// primary reads what an operand is, or begins with: how it goes on is seen from its first token.
func (r *reader) primary() *api.Node {
	read := r.begun()
	must(read != nil)
	return read()
}

// begun is what reads the primary that begins with the next token; nil if none does.
func (r *reader) begun() func() *api.Node {
	switch t := r.next(); t.Kind {
	case api.TSign:
		return r.begunBySign(t.Text)
	case api.TWord:
		return r.begunByWord(t.Text)
	}
	return r.literal
}

// begunBySign is what reads the primary that begins with that sign; nil if none does.
func (r *reader) begunBySign(text string) func() *api.Node {
	switch text {
	case "(":
		return r.within
	case "{":
		return r.tuple
	case "[":
		return r.list
	case "<<":
		return r.bin
	case "#":
		return r.made
	}
	return nil
}

// begunByWord is what reads the primary that begins with that reserved word; nil if none does.
func (r *reader) begunByWord(text string) func() *api.Node {
	switch text {
	case "fun":
		return r.fun
	case "case":
		return r.choice
	case "if":
		return r.tests
	case "receive":
		return r.receive
	case "begin":
		return r.block
	}
	return nil
}

// literal reads a name, number, char or text.
func (r *reader) literal() *api.Node {
	text := r.text(api.TAtom, api.TVar, api.TInt, api.TFloat, api.TChar, api.TString, api.TMacro)
	return &api.Node{Kind: api.NLit, Text: text}
}

// within reads an expression in ( ), which leaves nothing of them behind.
func (r *reader) within() *api.Node {
	must(r.sign("("))
	n := r.expr(whole)
	must(r.sign(")"))
	return n
}

// any reads an expression of whatever level.
func (r *reader) any() *api.Node {
	return r.expr(whole)
}

// pair reads an item of a map.
func (r *reader) pair() *api.Node {
	return r.perhaps(plain, "=>", ":=")
}

// perhaps reads an expression of that level, and perhaps one of the signs and another such expression.
func (r *reader) perhaps(level int, signs ...string) *api.Node {
	n := r.expr(level)
	for _, between := range signs {
		if r.sign(between) {
			return two(between, n, r.expr(level))
		}
	}
	return n
}

// box reads a container: the sign that opens it, items with commas between or none, and the sign that closes it. n is what is known of it.
func (r *reader) box(n *api.Node, open string, one func() *api.Node) *api.Node {
	must(r.sign(open))
	n.Break = r.broken()
	notes := r.notes()
	if r.sign(sign.Pair(open)) {
		n.Tail = notes
		return n
	}
next:
	n.L = append(n.L, *noted(one(), notes))
	more := r.sign(",")
	notes = r.notes()
	if more {
		goto next
	}
	must(r.sign(sign.Pair(open)))
	n.Tail = notes
	return n
}

// noted is n with those comments ahead.
func noted(n *api.Node, notes []string) *api.Node {
	n.Notes = notes
	return n
}

// tuple reads { }.
func (r *reader) tuple() *api.Node {
	return r.box(&api.Node{Kind: api.NTuple}, "{", r.any)
}

// list reads [ ], with a tail or without; or a comprehension, which begins likewise.
func (r *reader) list() *api.Node {
	must(r.sign("["))
	n := &api.Node{Kind: api.NList, Break: r.broken()}
	notes := r.notes()
	if r.sign("]") {
		n.Tail = notes
		return n
	}
next:
	n.L = append(n.L, *noted(r.expr(listed), notes))
	switch {
	case r.sign(","):
		notes = r.notes()
		goto next
	case r.sign("||"):
		return r.comprehension(n)
	case r.sign("|"):
		n.Text = "|"
		n.L = append(n.L, *r.expr(listed))
	}
	n.Tail = r.notes()
	must(r.sign("]"))
	return n
}

// comprehension reads what stands behind ||; n is what was read ahead of it, which must be one expression, and is no item.
func (r *reader) comprehension(n *api.Node) *api.Node {
	must(len(n.L) == 1 && len(n.L[0].Notes) == 0)
	n.Kind = api.NComp
	n.L = append(n.L, r.row(",", r.qualifier)...)
	must(r.sign("]"))
	return n
}

// qualifier reads one of those that stand behind ||.
func (r *reader) qualifier() *api.Node {
	return r.perhaps(listed, "<-", "<=")
}

// bin reads << >>.
func (r *reader) bin() *api.Node {
	r.in()
	n := r.box(&api.Node{Kind: api.NBin}, "<<", r.segment)
	r.out()
	return n
}

// segment reads an item of << >>: a value, perhaps its size, perhaps its types.
func (r *reader) segment() *api.Node {
	n := r.value()
	from := r.at
	if r.sign(":") {
		r.amount()
	}
	if r.sign("/") {
		r.types()
	}
	if r.at == from {
		return n
	}
	return &api.Node{Kind: api.NSeg, Text: r.since(from), L: []api.Node{*n}}
}

// value reads what an item of << >> begins with.
func (r *reader) value() *api.Node {
	switch {
	case r.sees("("):
		return r.within()
	case r.sees("<<"):
		return r.bin()
	}
	return r.literal()
}

// types reads atoms with - between.
func (r *reader) types() {
next:
	r.text(api.TAtom)
	if r.sign("-") {
		goto next
	}
}

// made reads a map or a record.
func (r *reader) made() *api.Node {
	must(r.sign("#"))
	if r.sees("{") {
		return r.box(&api.Node{Kind: api.NMap}, "{", r.pair)
	}
	return r.box(&api.Node{Kind: api.NRec, Text: r.name()}, "{", r.any)
}

// changed reads what stands behind of: other pairs of a map or of a record, or which field is asked.
func (r *reader) changed(of *api.Node) *api.Node {
	must(r.sign("#"))
	n := &api.Node{Kind: api.NMapUp, L: []api.Node{*of}}
	if r.sees("{") {
		return r.box(n, "{", r.pair)
	}
	from := r.at
	n.Kind, n.Text = api.NRecUp, r.name()
	if r.sign(".") {
		r.text(api.TAtom)
		n.Kind, n.Text = api.NField, r.since(from)
		return n
	}
	return r.box(n, "{", r.any)
}
