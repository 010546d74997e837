package low

import "galley/api"

// whose is whose a clause is: by that its parts ahead of -> are written.
type whose int

const (
	ofFun  whose = iota // of a function, with a name or without one, or of a spec: it has arguments
	ofCase              // of case or receive: it has a pattern
	ofIf                // of if: it has a guard alone
)

// whoseIs is whose the clause n is, as far as its parts tell.
func whoseIs(n *api.Node) whose {
	patterns, alternatives := child(n, 0).L, child(n, 1).L
	switch {
	case n.Text == "" && len(patterns) == 1:
		return ofCase
	case n.Text == "" && len(patterns) == 0 && len(alternatives) > 0:
		return ofIf
	}
	return ofFun
}

// clause is the clause n.
func clause(n *api.Node, of whose) part {
	return boxed(n.Break, text(n.Text), head(n, of), nest(line, body(child(n, 2))))
}

// head is the clause n from behind its name up to ->.
func head(n *api.Node, of whose) part {
	args, tests := child(n, 0), child(n, 1)
	switch of {
	case ofCase:
		return row(at(child(args, 0), plain), guard(" when ", tests), text(" ->"))
	case ofIf:
		return row(guard("", tests), text(" ->"))
	}
	return row(box("(", args.L, whole, ")", args), guard(" when ", tests), text(" ->"))
}

// guard is the alternatives of n behind that word; nothing, if there are none.
func guard(word string, n *api.Node) part {
	if len(n.L) == 0 {
		return row()
	}
	test := func(x *api.Node) part {
		return at(x, plain)
	}
	alternative := func(x *api.Node) part {
		return joined(x.L, always(text(", ")), test)
	}
	return row(text(word), joined(n.L, always(text("; ")), alternative))
}

// body is the expressions of n, one below the other.
func body(n *api.Node) part {
	between := func(k int) part {
		if n.L[k].Blank {
			return row(text(","), hard, hard)
		}
		return row(text(","), hard)
	}
	return joined(n.L, between, func(x *api.Node) part {
		return row(noted(x.Notes), expr(x))
	})
}

// clauses are l, one below the other.
func clauses(l []api.Node, of whose) part {
	return joined(l, always(text(";"), hard), func(x *api.Node) part {
		return row(noted(x.Notes), clause(x, of))
	})
}

// block is inner on lines of its own, with n's comments at its end, and end.
func block(inner part, n *api.Node) part {
	return row(nest(hard, inner, tailed(n.Tail)), hard, text("end"))
}

// receive is receive, with clauses, with after, or with both.
func receive(n *api.Node) part {
	last := len(n.L) - 1
	if n.Text != "after" || last < 0 {
		return row(text("receive"), block(clauses(n.L, ofCase), n))
	}
	first := row()
	if last > 0 {
		first = nest(hard, clauses(n.L[:last], ofCase))
	}
	after := &n.L[last]
	return row(text("receive"), first, hard, noted(after.Notes), text("after"), block(clause(after, ofCase), n))
}

// function is a function without a name.
func function(n *api.Node) part {
	if len(n.L) != 1 {
		return row(text("fun"), block(clauses(n.L, ofFun), n))
	}
	one := &n.L[0]
	return boxed(one.Break,
		text("fun"), head(one, ofFun), nest(line, body(child(one, 2)), tailed(n.Tail)), line, text("end"))
}
