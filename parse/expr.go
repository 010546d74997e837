package parse

import (
	"strings"

	"galley/api"
	"galley/ops"
	"galley/word"
)

// Levels that what stands at a place has at least.
const (
	whole  = 0 // all there is
	plain  = 1 // all but catch, which would take in what stands behind it
	listed = 3 // what leaves | and :: to what stands around it
)

// Levels of what was read as an operand.
const (
	prefixed = 10
	alone    = 11
)

// chain is an expression that is being read: operands with operators between.
type chain struct {
	*reader
	level  int       // the level that its operators have at least
	caught []string  // a catch for each one that stands ahead
	ahead  []string  // what stands ahead of its first operand
	stood  bool      // what was read of that operand stood in ( )
	left   *api.Node // what was read, with all operators so far
	has    int       // the level of that
}

// expr makes a step that reads an expression with operators of at least that level.
func (r *reader) expr(level int) func() {
	return func() {
		c := &chain{reader: r, level: level, has: alone}
		c.begin()
	}
}

// begin reads what stands ahead of the first operand: any number of catch, where all there is may stand, and of prefixes.
func (c *chain) begin() {
again:
	if c.level <= whole && c.word("catch") {
		c.caught = append(c.caught, "catch")
		goto again
	}
sign:
	if op := c.operator(); ops.Prefix(op) != 0 {
		c.take()
		c.ahead, c.has = append(c.ahead, op), prefixed
		goto sign
	}
	// What stood in ( ) may be followed whatever it is.
	c.stood = c.sees("(")
	c.plan(c.primary, c.followed)
}

// followed reads what follows the operand, again and again, and then goes on with operators.
func (c *chain) followed() {
	if next := c.follows(); next != nil {
		c.stood = false
		c.plan(next, c.followed)
		return
	}
	c.left = under(c.ahead, c.n)
	c.joined()
}

// joined reads an operator behind what was read, and has its right operand read; if none that may stand there is next, the expression ends.
func (c *chain) joined() {
	op := c.operator()
	own := ops.Binary(op)
	if own < max(c.level, plain) || c.has < ops.Left(op) {
		c.n = under(c.caught, c.left)
		return
	}
	c.take()
	c.plan(c.expr(ops.Right(op)), func() {
		c.left, c.has = two(op, c.left, c.n), own
		c.joined()
	})
}

// operator is the sign or word that is next; "" if what is next is neither.
func (r *reader) operator() string {
	switch t := r.next(); t.Kind {
	case api.TSign, api.TWord:
		return t.Text
	}
	return ""
}

// follows is what reads what follows the operand, as far as it was read; nil if nothing does.
func (c *chain) follows() func() {
	switch {
	case !c.stood && !bare(c.n):
		return nil
	case c.sees("("):
		return c.call
	case c.sees("#"):
		return c.changed
	case c.sees(":") && (c.stood || c.n.Kind == api.NLit):
		return c.remote
	}
	return nil
}

// bare tells whether things may follow n as it is.
func bare(n *api.Node) bool {
	switch n.Kind {
	case api.NCall, api.NRemote, api.NMap, api.NMapUp, api.NRec, api.NRecUp, api.NField:
		return true
	case api.NLit:
		return n.Text != "" && n.Text[0] != '$' && n.Text[0] != '"' && word.Begins(n.Text[0]) != api.TInt
	}
	return false
}

// call reads what is handed to what was read.
func (r *reader) call() {
	n := &api.Node{Kind: api.NCall, L: []api.Node{*r.n}}
	r.plan(r.box(n, "(", r.expr(whole)))
}

// changed reads what stands behind what was read: other pairs of a map or of a record, or which field is asked.
func (r *reader) changed() {
	n := &api.Node{Kind: api.NMapUp, L: []api.Node{*r.n}}
	must(r.sign("#"))
	if r.sees("{") {
		r.plan(r.box(n, "{", r.pair))
		return
	}
	from := r.at
	n.Kind, n.Text = api.NRecUp, r.name()
	if r.sign(".") {
		r.text(api.TAtom)
		n.Kind, n.Text = api.NField, r.since(from)
		r.n = n
		return
	}
	r.plan(r.box(n, "{", r.expr(whole)))
}

// remote reads what stands behind a module.
func (r *reader) remote() {
	n := &api.Node{Kind: api.NRemote, L: []api.Node{*r.n}}
	must(r.sign(":"))
	r.plan(r.called, r.into(n))
}

// called reads a name, or an expression in ( ).
func (r *reader) called() {
	if r.sees("(") {
		r.within()
		return
	}
	r.n = &api.Node{Kind: api.NLit, Text: r.name()}
}

// perhaps makes a step that reads an expression of that level, and perhaps one of the signs and another such expression.
func (r *reader) perhaps(level int, signs ...string) func() {
	more := func() {
		left := r.n
		for _, between := range signs {
			if r.sign(between) {
				r.plan(r.expr(level), func() { r.n = two(between, left, r.n) })
				return
			}
		}
	}
	return func() {
		r.plan(r.expr(level), more)
	}
}

// two is the operator op between a and b.
func two(op string, a, b *api.Node) *api.Node {
	return &api.Node{Kind: api.NOp, Text: strings.Clone(op), L: []api.Node{*a, *b}}
}

// under is n with prefixes ahead, the last of which stands next to it.
func under(ahead []string, n *api.Node) *api.Node {
	for at := len(ahead) - 1; at >= 0; at-- {
		n = &api.Node{Kind: api.NUn, Text: strings.Clone(ahead[at]), L: []api.Node{*n}}
	}
	return n
}
