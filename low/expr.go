package low

import (
	"galley/api"
	"galley/parens"
)

// Levels that what stands at a place has at least.
const (
	whole    = 0  // all there is
	plain    = 1  // all but catch, which would take in what stands behind it
	listed   = 3  // what leaves | and :: to what stands around it
	prefixed = 10 // what holds as closely as what stands ahead of it
	alone    = 11 // what nothing beside it takes apart
)

// expr is the expression n.
func expr(n *api.Node) part {
	return func(m *maker) {
		written(n)(m)
	}
}

// written is what the expression n is put together of.
func written(n *api.Node) part {
	switch n.Kind {
	case api.NLit:
		return text(n.Text)
	case api.NRef:
		return text("fun ", n.Text)
	case api.NCall:
		return row(followed(child(n, 0)), box("(", others(n), whole, ")", n))
	case api.NRemote:
		return row(named(child(n, 0)), text(":"), named(child(n, 1)))
	case api.NTuple:
		return box("{", n.L, whole, "}", n)
	case api.NList:
		return box("[", n.L, listed, "]", n)
	case api.NBin:
		return box("<<", n.L, alone, ">>", n)
	case api.NSeg:
		return row(value(child(n, 0)), text(n.Text))
	case api.NMap:
		return box("#{", n.L, plain, "}", n)
	case api.NMapUp:
		return row(followed(child(n, 0)), box("#{", others(n), plain, "}", n))
	case api.NRec:
		return box("#"+n.Text+"{", n.L, whole, "}", n)
	case api.NRecUp:
		return row(followed(child(n, 0)), box("#"+n.Text+"{", others(n), whole, "}", n))
	case api.NField:
		return row(followed(child(n, 0)), text("#", n.Text))
	case api.NUn:
		return row(text(ahead(n)), at(child(n, 0), operandOf(n)))
	case api.NOp:
		return operation(n)
	case api.NComp:
		return comprehension(n)
	case api.NCase:
		return row(text("case "), at(child(n, 0), whole), text(" of"), block(clauses(others(n), ofCase), n))
	case api.NIf:
		return row(text("if"), block(clauses(n.L, ofIf), n))
	case api.NReceive:
		return receive(n)
	case api.NBegin:
		return row(text("begin"), block(body(child(n, 0)), n))
	case api.NFun:
		return function(n)
	}
	return row()
}

// child is the node k of those in n; an empty one, if there are not so many.
func child(n *api.Node, k int) *api.Node {
	if k < len(n.L) {
		return &n.L[k]
	}
	return &api.Node{}
}

// others are all nodes in n but the first one.
func others(n *api.Node) []api.Node {
	if len(n.L) == 0 {
		return nil
	}
	return n.L[1:]
}

// held is the expression n, in parentheses, unless it may stand as it is.
func held(n *api.Node, asItIs bool) part {
	if asItIs {
		return expr(n)
	}
	return row(text("("), expr(n), text(")"))
}

// at is the expression n where one of at least that level stands.
func at(n *api.Node, level int) part {
	return held(n, !parens.Need(*n, level))
}

// followed is the expression n where arguments, fields and the like stand behind it.
func followed(n *api.Node) part {
	return held(n, parens.Bare(*n))
}

// named is the expression n beside the : of a name of another module.
func named(n *api.Node) part {
	return held(n, n.Kind == api.NLit && parens.Bare(*n))
}

// value is the expression n as an item of << >>, or as what has a size there.
func value(n *api.Node) part {
	return held(n, n.Kind == api.NLit || n.Kind == api.NBin || n.Kind == api.NSeg)
}
