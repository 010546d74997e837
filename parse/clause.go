package parse

import "galley/api"

// fun reads a function without a name, or which one of those with a name is meant.
func (r *reader) fun() *api.Node {
	must(r.word("fun"))
	if r.sees("(") {
		return r.ended(&api.Node{Kind: api.NFun, L: r.clauses(r.funClause)})
	}
	from := r.at
	r.name()
	if r.sign(":") {
		r.name()
	}
	must(r.sign("/"))
	r.amount()
	return &api.Node{Kind: api.NRef, Text: r.since(from)}
}

// choice reads case.
func (r *reader) choice() *api.Node {
	must(r.word("case"))
	n := &api.Node{Kind: api.NCase, L: []api.Node{*r.expr(whole)}}
	must(r.word("of"))
	n.L = append(n.L, r.clauses(r.patternClause)...)
	return r.ended(n)
}

// tests reads if.
func (r *reader) tests() *api.Node {
	must(r.word("if"))
	return r.ended(&api.Node{Kind: api.NIf, L: r.clauses(r.testClause)})
}

// receive reads receive, with clauses, with after, or with both.
func (r *reader) receive() *api.Node {
	must(r.word("receive"))
	n := &api.Node{Kind: api.NReceive}
	if !r.comes("after") {
		n.L = r.clauses(r.patternClause)
	}
	if r.comes("after") {
		notes := r.notes()
		n.Text = "after"
		n.L = append(n.L, *noted(r.lastClause(), notes))
	}
	return r.ended(n)
}

// block reads begin.
func (r *reader) block() *api.Node {
	must(r.word("begin"))
	return r.ended(&api.Node{Kind: api.NBegin, L: []api.Node{*r.body()}})
}

// ended is n with the comments ahead of its end, which is read.
func (r *reader) ended(n *api.Node) *api.Node {
	n.Tail = r.notes()
	must(r.word("end"))
	return n
}

// clauses reads clauses with ; between, at least one of them, each with the comments ahead of it.
func (r *reader) clauses(one func() *api.Node) []api.Node {
	return r.row(";", func() *api.Node {
		notes := r.notes()
		return noted(one(), notes)
	})
}

// patternClause reads a clause of case or receive.
func (r *reader) patternClause() *api.Node {
	pattern := r.expr(plain)
	return r.clause(&api.Node{Kind: api.NArgs, L: []api.Node{*pattern}}, r.guard())
}

// funClause reads a clause of fun.
func (r *reader) funClause() *api.Node {
	args := r.box(&api.Node{Kind: api.NArgs}, "(", r.any)
	return r.clause(args, r.guard())
}

// testClause reads a clause of if.
func (r *reader) testClause() *api.Node {
	return r.clause(&api.Node{Kind: api.NArgs}, r.alternatives())
}

// lastClause reads after and its clause.
func (r *reader) lastClause() *api.Node {
	must(r.word("after"))
	wait := r.expr(plain)
	return r.clause(&api.Node{Kind: api.NArgs, L: []api.Node{*wait}}, &api.Node{Kind: api.NGuard})
}

// clause reads what a clause ends with, -> and a body, behind what it begins with.
func (r *reader) clause(args, guard *api.Node) *api.Node {
	must(r.sign("->"))
	broken := r.broken()
	return &api.Node{Kind: api.NClause, L: []api.Node{*args, *guard, *r.body()}, Break: broken}
}

// guard reads when and what stands behind it, if it is there.
func (r *reader) guard() *api.Node {
	if r.word("when") {
		return r.alternatives()
	}
	return &api.Node{Kind: api.NGuard}
}

// alternatives reads what a guard asks.
func (r *reader) alternatives() *api.Node {
	return &api.Node{Kind: api.NGuard, L: r.row(";", r.conditions)}
}

// conditions reads one alternative.
func (r *reader) conditions() *api.Node {
	return &api.Node{Kind: api.NBody, L: r.row(",", r.condition)}
}

// condition reads one condition of an alternative.
func (r *reader) condition() *api.Node {
	return r.expr(plain)
}

// body reads expressions with commas between, at least one of them, each with the comments ahead of it.
func (r *reader) body() *api.Node {
	n := &api.Node{Kind: api.NBody}
next:
	// Ahead of its first expression a body has nothing that a blank line could set it off from.
	blank := len(n.L) > 0 && r.blank()
	notes := r.notes()
	x := noted(r.expr(whole), notes)
	x.Blank = blank
	n.L = append(n.L, *x)
	if r.sign(",") {
		goto next
	}
	return n
}
