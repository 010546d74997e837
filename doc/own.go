package doc

import (
	"slices"
	"strings"

	"galley/api"
)

// few is how many parts a part that is copied has at most. Documents are made from the inside out: if all that is in a part were copied at each step, a deep one would cost the square of its depth.
const few = 256

// own is l in memory of its own, and all that is in it; but of a part that has more than few its list stays the one that it has.
func own(l []api.Doc) []api.Doc {
	l = slices.Clone(l)
	for k, x := range l {
		if left(few, l[k:k+1]) >= 0 {
			l[k] = fresh(x)
		}
	}
	return l
}

// fresh is d in memory of its own, all the way down. It calls itself once a level, so it is for what has few parts.
func fresh(d api.Doc) api.Doc {
	d.Text, d.L = strings.Clone(d.Text), slices.Clone(d.L)
	for k, x := range d.L {
		d.L[k] = fresh(x)
	}
	return d
}

// left is how many of so many are left if all parts of l, and those in them, are taken away; below 0 if they are more, and then no more of them are looked at.
func left(many int, l []api.Doc) int {
	for k := 0; k < len(l) && many >= 0; k++ {
		many = left(many-1, l[k].L)
	}
	return many
}
