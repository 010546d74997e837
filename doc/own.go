package doc

import (
	"slices"
	"strings"

	"galley/api"
)

// own is l in memory of its own, and all that is in it, however deep.
func own(l []api.Doc) []api.Doc {
	l = slices.Clone(l)
	// These lists are new, but not yet what is in them.
	open := [][]api.Doc{l}
	for len(open) > 0 {
		last := len(open) - 1
		list := open[last]
		open = open[:last]
		for k := range list {
			x := &list[k]
			x.Text, x.L = strings.Clone(x.Text), slices.Clone(x.L)
			open = append(open, x.L)
		}
	}
	return l
}
