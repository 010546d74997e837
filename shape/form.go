package shape

import "galley/api"

// function reads clauses with ; between, each but the first one with the comments ahead of it.
func (r *reader) function() api.Node {
	n := api.Node{Kind: api.NFunc, L: []api.Node{r.clause()}}
	for r.sign(";") {
		notes := r.notes()
		c := r.clause()
		c.Notes = notes
		n.L = append(n.L, c)
	}
	return n
}

// clause reads a clause of a function.
func (r *reader) clause() api.Node {
	n := api.Node{Kind: api.NClause, Text: r.name(api.TAtom, api.TMacro)}
	args := r.args()
	guard := r.guard()
	n.Break = r.arrow()
	n.L = []api.Node{args, guard, r.body()}
	return n
}

// spec reads what is told of a function or of a callback.
func (r *reader) spec() api.Node {
	r.must(r.sign("-"))
	n := api.Node{Kind: api.NSpec, Text: r.name(api.TAtom)}
	r.must(n.Text == "spec" || n.Text == "callback")
	c := api.Node{Kind: api.NClause, Text: r.name(api.TAtom)}
	args := r.args()
	c.Break = r.arrow()
	c.L = []api.Node{args, {Kind: api.NGuard}, {Kind: api.NBody, L: []api.Node{r.expr(whole)}}}
	n.L = []api.Node{c}
	return n
}

// attribute reads any other thing that is told: a name alone, or with things in ( ), or with an expression.
func (r *reader) attribute() api.Node {
	r.must(r.sign("-"))
	n := api.Node{Kind: api.NAttr, Text: r.told()}
	switch {
	case r.ended():
	case r.sees(api.TSign, "("):
		n.L = []api.Node{r.args()}
	default:
		n.L = []api.Node{r.expr(plain)}
	}
	return n
}

// told reads the name of what is told. Of the reserved words if alone is one.
func (r *reader) told() string {
	if r.word("if") {
		return "if"
	}
	return r.name(api.TAtom)
}

// args reads ( ), with items with commas between or none, each with the comments ahead of it.
func (r *reader) args() api.Node {
	r.must(r.sign("("))
	n := api.Node{Kind: api.NArgs, Break: r.broken()}
	first := r.at
	n.Tail = r.notes()
	if !r.sees(api.TSign, ")") {
		// They are the first item's, not ahead of what closes.
		r.at = first
		n.L = r.items()
		n.Tail = r.notes()
	}
	r.must(r.sign(")"))
	return n
}

// items reads what stands in ( ): as a body has it, but that no blank line sets an item off.
func (r *reader) items() []api.Node {
	list := r.body().L
	for k := range list {
		list[k].Blank = false
	}
	return list
}

// guard reads when and its alternatives with ; between, if it is there.
func (r *reader) guard() api.Node {
	n := api.Node{Kind: api.NGuard}
	for more := r.word("when"); more; more = r.sign(";") {
		n.L = append(n.L, r.conditions())
	}
	return n
}

// conditions reads one alternative: expressions with commas between.
func (r *reader) conditions() api.Node {
	n := api.Node{Kind: api.NBody}
	for more := true; more; more = r.sign(",") {
		n.L = append(n.L, r.expr(plain))
	}
	return n
}

// arrow reads ->, and tells whether a line ends behind it.
func (r *reader) arrow() bool {
	r.must(r.sign("->"))
	return r.broken()
}
