package low

import "galley/api"

// box is l between the signs open and end: on one line, or a line each. n is what they are of.
func box(open string, l []api.Node, level int, end string, n *api.Node) part {
	tail := n.Tail
	if len(l) == 0 && len(tail) == 0 {
		return text(open, end)
	}
	inner := items(l, level, n)
	if len(l) == 0 {
		// The line of the first comment has begun behind the sign that opens.
		inner, tail = text(tail[0]), tail[1:]
	}
	return boxed(n.Break || len(n.Tail) > 0,
		text(open), nest(soft, inner, tailed(tail)), soft, text(end))
}

// items are l as those of n, with commas between, but ahead of the tail of a list.
func items(l []api.Node, level int, n *api.Node) part {
	between := func(k int) part {
		if n.Kind == api.NList && n.Text == "|" && k == len(l)-1 {
			return row(line, text("| "))
		}
		return row(text(","), line)
	}
	return joined(l, between, func(x *api.Node) part {
		return row(noted(x.Notes), item(n, x, level))
	})
}

// item is x as an item of n.
func item(n, x *api.Node, level int) part {
	switch {
	case n.Kind == api.NBin:
		return value(x)
	case operates(x, "=>", ":="):
		return expr(x)
	}
	return at(x, level)
}

// comprehension is a list with its qualifiers.
func comprehension(n *api.Node) part {
	qualifier := func(x *api.Node) part {
		if operates(x, "<-", "<=") {
			return expr(x)
		}
		return at(x, listed)
	}
	return boxed(n.Break,
		text("["),
		nest(soft, at(child(n, 0), listed), line, text("|| "), joined(others(n), always(text(","), line), qualifier)),
		soft, text("]"))
}

// joined is what one makes of each node of l; ahead of all but the first one stands what between makes of its number.
func joined(l []api.Node, between func(k int) part, one func(x *api.Node) part) part {
	var list []part
	for k := range l {
		if k > 0 {
			list = append(list, between(k))
		}
		list = append(list, one(&l[k]))
	}
	return row(list...)
}

// always makes the same row, whatever stands behind it.
func always(l ...part) func(k int) part {
	return func(int) part {
		return row(l...)
	}
}

// noted are comments ahead of something.
func noted(notes []string) part {
	var list []part
	for _, s := range notes {
		list = append(list, text(s), hard)
	}
	return row(list...)
}

// tailed are comments behind something.
func tailed(notes []string) part {
	var list []part
	for _, s := range notes {
		list = append(list, hard, text(s))
	}
	return row(list...)
}
