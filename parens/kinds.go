package parens

// kinds are kinds of nodes, each a bit.
type kinds uint64

// of puts kinds together.
func of(list ...int) kinds {
	var all kinds
	for _, kind := range list {
		all |= bit(kind)
	}
	return all
}

// has tells whether kind is one of k.
func (k kinds) has(kind int) bool {
	return k&bit(kind) != 0
}

// bit is the bit of a kind; none of a number that is too small or too great to have one.
func bit(kind int) kinds {
	// A number below 0 can't be shifted by; without its sign it is beyond all bits.
	return kinds(1) << uint(kind)
}
