package render

import (
	"galley/api"
	"galley/cell"
)

const (
	blank  = " " // a line of what is flat
	broken = 1   // N of a group that must be broken
)

// coming is a part that is to come: how far right it is nested, and whether it is flat.
type coming struct {
	*api.Doc
	right int
	flat  bool
}

// mayEnd tells whether a line may end with x.
func (x coming) mayEnd() bool {
	return x.Kind == api.DLine || x.Kind == api.DSoft || x.Kind == api.DHard
}

// ends tells whether a line ends with x: no newline stands in what is flat, for it forces all around it.
func (x coming) ends() bool {
	return x.mayEnd() && !x.flat
}

// forces tells whether nothing that x stands in may be flat, nor x itself.
func (x coming) forces() bool {
	return x.Kind == api.DHard || x.Kind == api.DGroup && x.N == broken
}

// written is what x writes, if no line ends with it.
func (x coming) written() string {
	switch x.Kind {
	case api.DText:
		return x.Text
	case api.DLine:
		return blank
	}
	return ""
}

// laid is d and all that is in it, in the order in which the parts are taken, as they are laid out on lines of that width.
func laid(d api.Doc, width int) []coming {
	row := inOrder(&d)
	list := behind(row)
	column := 0
	flatUpTo := 0
	for k := range row {
		x := &row[k]
		x.flat = k < flatUpTo
		switch {
		case x.ends():
			column = x.right
		case x.Kind != api.DGroup:
			column += cell.Width(x.written())
		case !x.flat && fits(list, k, width-column):
			x.flat = true
			flatUpTo = list[k].next
		}
	}
	return row
}

// inOrder is d and all that is in it, each part ahead of those in it; flat is none of them yet.
func inOrder(d *api.Doc) []coming {
	var row []coming
	// What is still to come stands in a list, the next one last, for a document may be deeper than calls can go.
	rest := []coming{{Doc: d}}
	for len(rest) > 0 {
		x := rest[len(rest)-1]
		rest = rest[:len(rest)-1]
		row = append(row, x)
		right := x.right
		if x.Kind == api.DNest {
			right += x.N
		}
		for k := range x.L {
			rest = append(rest, coming{Doc: &x.L[len(x.L)-1-k], right: right})
		}
	}
	return row
}

// sums are those of a part and of all that comes behind it.
type sums struct {
	next   int // the number of the part that comes behind it and all that is in it
	width  int // Width of all of them together
	first  int // First of all of them
	forced int // how many of them force what they stand in
}

// behind are the sums of each part of row, and last those of no part. So each part is gone over once: to ask Width and First, and whether it is Forced, of each group alone would take the square of how deep groups stand in each other.
func behind(row []coming) []sums {
	list := make([]sums, len(row)+1)
	for back := range row {
		k := len(row) - 1 - back
		list[k] = list[k+1].with(row[k])
		list[k].next = k + 1
		for range row[k].L {
			list[k].next = list[list[k].next].next
		}
	}
	return list
}

// with are the sums with x ahead.
func (s sums) with(x coming) sums {
	width := cell.Width(x.written())
	s.width += width
	s.first += width
	if x.mayEnd() {
		s.first = 0
	}
	if x.forces() {
		s.forced++
	}
	return s
}

// fits tells whether the group k may be flat in so many columns: nothing in it is forced, and there is room for it and for what comes behind it up to the next place where a line may end.
func fits(list []sums, k, columns int) bool {
	here, next := list[k], list[list[k].next]
	return here.forced == next.forced && here.width-next.width+next.first <= columns
}
