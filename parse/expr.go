package parse

import (
	"strings"

	"galley/api"
	"galley/ops"
	"galley/word"
)

// Levels that what stands at a place has at least.
const (
	whole  = 0 // all there is
	plain  = 1 // all but catch, which would take in what stands behind it
	listed = 3 // what leaves | and :: to what stands around it
)

// Levels of what was read as an operand.
const (
	prefixed = 10
	alone    = 11
)

// expr reads an expression with operators of at least that level; with any number of catch ahead where all there is may stand.
func (r *reader) expr(level int) *api.Node {
	var ahead []string
next:
	if level <= whole && r.word("catch") {
		ahead = append(ahead, "catch")
		goto next
	}
	r.in()
	n := r.chain(level)
	r.out()
	return under(ahead, n)
}

// chain reads operands with operators of at least that level between.
func (r *reader) chain(level int) *api.Node {
	n, has := r.operand()
next:
	op, own, right := r.joint(max(level, plain), has)
	if own == 0 {
		return n
	}
	n, has = two(op, n, r.expr(right)), own
	goto next
}

// joint reads an operator of at least that level whose left operand may be what has the level has, and answers its own level and that of its right operand; 0 if none is next.
func (r *reader) joint(level, has int) (op string, own, right int) {
	op = r.operator()
	own = ops.Binary(op)
	if own < level || has < ops.Left(op) {
		return "", 0, 0
	}
	r.at++
	return op, own, ops.Right(op)
}

// operator is the sign or word that is next; "" if what is next is neither.
func (r *reader) operator() string {
	switch t := r.next(); t.Kind {
	case api.TSign, api.TWord:
		return t.Text
	}
	return ""
}

// operand reads what an operator may stand beside, and answers its level too.
func (r *reader) operand() (*api.Node, int) {
	var ahead []string
	level := alone
next:
	if op := r.operator(); ops.Prefix(op) != 0 {
		r.at++
		ahead, level = append(ahead, op), prefixed
		goto next
	}
	// What stood in ( ) may be followed whatever it is.
	stood := r.sees("(")
	n := r.primary()
	return under(ahead, r.followed(n, stood)), level
}

// followed reads what follows n, again and again; stood tells whether n stood in ( ).
func (r *reader) followed(n *api.Node, stood bool) *api.Node {
next:
	switch {
	case !stood && !bare(n):
		return n
	case r.sees("("):
		n = r.box(&api.Node{Kind: api.NCall, L: []api.Node{*n}}, "(", r.any)
	case r.sees("#"):
		n = r.changed(n)
	case (stood || n.Kind == api.NLit) && r.sign(":"):
		n = &api.Node{Kind: api.NRemote, L: []api.Node{*n, *r.called()}}
	default:
		return n
	}
	stood = false
	goto next
}

// bare tells whether things may follow n as it is.
func bare(n *api.Node) bool {
	switch n.Kind {
	case api.NCall, api.NRemote, api.NMap, api.NMapUp, api.NRec, api.NRecUp, api.NField:
		return true
	case api.NLit:
		return n.Text != "" && n.Text[0] != '$' && n.Text[0] != '"' && word.Begins(n.Text[0]) != api.TInt
	}
	return false
}

// called reads what stands behind the : of a module.
func (r *reader) called() *api.Node {
	if r.sees("(") {
		return r.within()
	}
	return &api.Node{Kind: api.NLit, Text: r.name()}
}

// two is the operator op between a and b.
func two(op string, a, b *api.Node) *api.Node {
	return &api.Node{Kind: api.NOp, Text: strings.Clone(op), L: []api.Node{*a, *b}}
}

// under is n with prefixes ahead, the last of which stands next to it.
func under(ahead []string, n *api.Node) *api.Node {
	for at := len(ahead) - 1; at >= 0; at-- {
		n = &api.Node{Kind: api.NUn, Text: strings.Clone(ahead[at]), L: []api.Node{*n}}
	}
	return n
}
