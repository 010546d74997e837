package parse

import "galley/api"

// fun reads a function without a name, or which one of those with a name is meant.
func (r *reader) fun() {
	must(r.word("fun"))
	if r.sees("(") {
		// The first clause is no item.
		must(r.near())
		n := &api.Node{Kind: api.NFun}
		r.plan(r.clauses(n, r.funClause), r.ended(n))
		return
	}
	from := r.at
	r.name()
	if r.sign(":") {
		r.name()
	}
	must(r.sign("/"))
	r.amount()
	r.n = &api.Node{Kind: api.NRef, Text: r.since(from)}
}

// choice reads case.
func (r *reader) choice() {
	must(r.word("case"))
	n := &api.Node{Kind: api.NCase}
	r.plan(r.expr(whole), r.into(n), r.wantsWord("of"), r.clauses(n, r.patternClause), r.ended(n))
}

// tests reads if.
func (r *reader) tests() {
	must(r.word("if"))
	n := &api.Node{Kind: api.NIf}
	r.plan(r.clauses(n, r.testClause), r.ended(n))
}

// receive reads receive, with clauses, with after, or with both.
func (r *reader) receive() {
	must(r.word("receive"))
	n := &api.Node{Kind: api.NReceive}
	last := func() {
		if r.comes("after") {
			n.Text = "after"
			r.plan(r.item(r.lastClause), r.into(n))
		}
	}
	r.plan(last, r.ended(n))
	if !r.comes("after") {
		r.plan(r.clauses(n, r.patternClause))
	}
}

// block reads begin.
func (r *reader) block() {
	must(r.word("begin"))
	n := &api.Node{Kind: api.NBegin}
	r.plan(r.body, r.into(n), r.ended(n))
}

// ended makes a step that reads the comments ahead of n's end, and that.
func (r *reader) ended(n *api.Node) func() {
	return r.tailed(n, r.wantsWord("end"))
}

// clauses makes a step that reads clauses with ; between into n, at least one of them, each with the comments ahead of it.
func (r *reader) clauses(n *api.Node, one func()) func() {
	return r.row(n, ";", r.item(one))
}

// patternClause reads a clause of case or receive.
func (r *reader) patternClause() {
	r.clause(r.pattern, r.guard)
}

// funClause reads a clause of fun.
func (r *reader) funClause() {
	r.clause(r.box(&api.Node{Kind: api.NArgs}, "(", r.expr(whole)), r.guard)
}

// testClause reads a clause of if.
func (r *reader) testClause() {
	r.clause(r.nothing(api.NArgs), r.alternatives)
}

// lastClause reads after and its clause.
func (r *reader) lastClause() {
	must(r.word("after"))
	r.clause(r.pattern, r.nothing(api.NGuard))
}

// clause reads what args and guard read, -> and a body.
func (r *reader) clause(args, guard func()) {
	n := &api.Node{Kind: api.NClause}
	add := r.into(n)
	arrow := func() {
		must(r.sign("->"))
		n.Break = r.broken()
	}
	r.plan(args, add, guard, add, arrow, r.body, add)
}

// nothing makes a step that reads no token, as a node of that kind.
func (r *reader) nothing(kind int) func() {
	return func() {
		r.n = &api.Node{Kind: kind}
	}
}

// pattern reads the one argument of a clause that has one.
func (r *reader) pattern() {
	r.plan(r.expr(plain), r.into(&api.Node{Kind: api.NArgs}))
}

// guard reads when and what stands behind it, if it is there.
func (r *reader) guard() {
	r.n = &api.Node{Kind: api.NGuard}
	if r.word("when") {
		r.alternatives()
	}
}

// alternatives reads what a guard asks.
func (r *reader) alternatives() {
	r.plan(r.row(&api.Node{Kind: api.NGuard}, ";", r.conditions))
}

// conditions reads one alternative.
func (r *reader) conditions() {
	r.plan(r.row(&api.Node{Kind: api.NBody}, ",", r.expr(plain)))
}

// body reads expressions with commas between, at least one of them, each with the comments ahead of it.
func (r *reader) body() {
	n := &api.Node{Kind: api.NBody}
	read := r.item(r.expr(whole))
	r.plan(r.row(n, ",", func() {
		// Ahead of its first expression a body has nothing that a blank line could set it off from.
		blank := len(n.L) > 0 && r.blank()
		r.plan(read, func() { r.n.Blank = blank })
	}))
}
