package low

import (
	"slices"
	"strings"

	"galley/api"
	"galley/ops"
	"galley/parens"
)

const toRight = 2 // ops.Side of what groups to the right

// ahead is what n writes ahead of its one operand.
func ahead(n *api.Node) string {
	// A sign needs no blank, but ahead of another one: the two could be read as one.
	if signed(n) && !signed(child(n, 0)) {
		return n.Text
	}
	return n.Text + " "
}

// operandOf is the level that the one operand of n has at least.
func operandOf(n *api.Node) int {
	if n.Text == "catch" {
		return whole
	}
	return prefixed
}

// signed tells whether n is an operand behind a sign.
func signed(n *api.Node) bool {
	return n.Kind == api.NUn && (n.Text == "+" || n.Text == "-")
}

// operates tells whether n is one of the operators with its operands.
func operates(n *api.Node, list ...string) bool {
	return n.Kind == api.NOp && slices.Contains(list, n.Text)
}

// operation is n, an operator with its operands: those that go on in its row too.
func operation(n *api.Node) part {
	if counts(n) {
		return row(expr(child(n, 0)), text(n.Text), expr(child(n, 1)))
	}
	first := at(child(n, 0), leftOf(n.Text))
	list, lined := operands(n)
	if !lined {
		return row(first, row(list...))
	}
	return group(first, nest(list...))
}

// counts tells whether n is a name and how many arguments it has.
func counts(n *api.Node) bool {
	name, number := child(n, 0), child(n, 1)
	return n.Text == "/" &&
		name.Kind == api.NLit && parens.Bare(*name) &&
		number.Kind == api.NLit && integer(number.Text)
}

// integer tells whether the literal s is a number without a fraction.
func integer(s string) bool {
	return s != "" && s[0] >= '0' && s[0] <= '9' && !strings.Contains(s, ".")
}

// operands are the operands of n's row but the first one, each with its operator ahead; and whether a line may end in between.
func operands(n *api.Node) (list []part, lined bool) {
	for {
		op, right := n.Text, child(n, 1)
		on := goesOn(op, right)
		x, level := right, rightOf(op)
		if on {
			x, level = child(right, 0), leftOf(right.Text)
		}
		between := part(line)
		if parens.Hugs(op, *x) && !parens.Need(*x, level) {
			between = text(" ")
		} else {
			lined = true
		}
		list = append(list, text(" ", op), between, at(x, level))
		if !on {
			return list, lined
		}
		n = right
	}
}

// goesOn tells whether the right operand of op is of op's row, not an operand of it.
func goesOn(op string, right *api.Node) bool {
	return ops.Side(op) == toRight && right.Kind == api.NOp && ops.Binary(right.Text) == ops.Binary(op)
}

// leftOf is the level that the left operand of op has at least.
func leftOf(op string) int {
	if level := bothOf(op); level > 0 {
		return level
	}
	return ops.Left(op)
}

// rightOf is the level that the right operand of op has at least.
func rightOf(op string) int {
	if level := bothOf(op); level > 0 {
		return level
	}
	return ops.Right(op)
}

// bothOf is the level that both sides of what is no operator have at least; 0 of operators.
func bothOf(op string) int {
	switch op {
	case "=>", ":=":
		return plain
	case "<-", "<=":
		return listed
	}
	return 0
}
