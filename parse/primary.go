package parse

import (
	"galley/api"
	"galley/sign"
)

// primary reads what an operand is, or begins with: how it goes on is seen from its first token.
func (r *reader) primary() {
	read := r.begun()
	must(read != nil)
	read()
}

// begun is what reads the primary that begins with the next token; nil if none does.
func (r *reader) begun() func() {
	switch t := r.next(); t.Kind {
	case api.TSign:
		return r.begunBySign(t.Text)
	case api.TWord:
		return r.begunByWord(t.Text)
	}
	return r.literal
}

// begunBySign is what reads the primary that begins with that sign; nil if none does.
func (r *reader) begunBySign(text string) func() {
	switch text {
	case "(":
		return r.within
	case "{":
		return r.tuple
	case "[":
		return r.list
	case "<<":
		return r.bin
	case "#":
		return r.made
	}
	return nil
}

// begunByWord is what reads the primary that begins with that reserved word; nil if none does.
func (r *reader) begunByWord(text string) func() {
	switch text {
	case "fun":
		return r.fun
	case "case":
		return r.choice
	case "if":
		return r.tests
	case "receive":
		return r.receive
	case "begin":
		return r.block
	}
	return nil
}

// literal reads a name, number, char or text.
func (r *reader) literal() {
	text := r.text(api.TAtom, api.TVar, api.TInt, api.TFloat, api.TChar, api.TString, api.TMacro)
	r.n = &api.Node{Kind: api.NLit, Text: text}
}

// within reads an expression in ( ), which leaves nothing of them behind.
func (r *reader) within() {
	must(r.sign("("))
	r.plan(r.expr(whole), r.wants(")"))
}

// box makes a step that reads a container: the sign that opens it, items with commas between or none, and the sign that closes it. n is what is known of it.
func (r *reader) box(n *api.Node, open string, one func()) func() {
	return func() {
		must(r.sign(open))
		n.Break = r.broken()
		end := sign.Pair(open)
		r.plan(r.tailed(n, r.wants(end)))
		if !r.sees(end) {
			r.plan(r.row(n, ",", r.item(one)))
		}
	}
}

// tuple reads { }.
func (r *reader) tuple() {
	r.plan(r.box(&api.Node{Kind: api.NTuple}, "{", r.expr(whole)))
}

// list reads [ ], with a tail or without; or a comprehension, which begins likewise.
func (r *reader) list() {
	must(r.sign("["))
	n := &api.Node{Kind: api.NList, Break: r.broken()}
	end := r.tailed(n, r.wants("]"))
	if r.sees("]") {
		end()
		return
	}
	r.plan(r.row(n, ",", r.item(r.expr(listed))), func() {
		switch {
		case r.sign("||"):
			r.comprehension(n)
		case r.sign("|"):
			n.Text = "|"
			r.plan(r.expr(listed), r.into(n), end)
		default:
			end()
		}
	})
}

// comprehension reads what stands behind ||; n is what was read ahead of it, which must be one expression, and is no item.
func (r *reader) comprehension(n *api.Node) {
	must(len(n.L) == 1 && len(n.L[0].Notes) == 0)
	n.Kind = api.NComp
	r.plan(r.row(n, ",", r.perhaps(listed, "<-", "<=")), r.wants("]"))
}

// bin reads << >>.
func (r *reader) bin() {
	r.plan(r.box(&api.Node{Kind: api.NBin}, "<<", r.segment))
}

// segment reads an item of << >>: a value, perhaps its size, perhaps its types.
func (r *reader) segment() {
	r.plan(r.value, r.sized)
}

// value reads what an item of << >> begins with.
func (r *reader) value() {
	switch {
	case r.sees("("):
		r.within()
	case r.sees("<<"):
		r.bin()
	default:
		r.literal()
	}
}

// sized reads the size and the types of the value that was read, if it has some.
func (r *reader) sized() {
	from := r.at
	if r.sign(":") {
		r.amount()
	}
	if r.sign("/") {
		r.types()
	}
	if r.at > from {
		r.n = &api.Node{Kind: api.NSeg, Text: r.since(from), L: []api.Node{*r.n}}
	}
}

// types reads atoms with - between.
func (r *reader) types() {
again:
	r.text(api.TAtom)
	if r.sign("-") {
		goto again
	}
}

// made reads a map or a record.
func (r *reader) made() {
	must(r.sign("#"))
	if r.sees("{") {
		r.plan(r.box(&api.Node{Kind: api.NMap}, "{", r.pair))
		return
	}
	r.plan(r.box(&api.Node{Kind: api.NRec, Text: r.name()}, "{", r.expr(whole)))
}

// pair reads an item of a map.
func (r *reader) pair() {
	r.plan(r.perhaps(plain, "=>", ":="))
}
