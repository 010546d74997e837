package parse

import "galley/api"

// wants makes a step that reads that sign.
func (r *reader) wants(text string) func() {
	return func() {
		must(r.sign(text))
	}
}

// wantsWord makes a step that reads that reserved word.
func (r *reader) wantsWord(text string) func() {
	return func() {
		must(r.word(text))
	}
}

// into makes a step that puts what was read into n, behind what is in it; what is read then is n.
func (r *reader) into(n *api.Node) func() {
	return func() {
		n.L = append(n.L, *r.n)
		r.n = n
	}
}

// tailed makes a step that reads the comments ahead of what ends n, as n's, and what ends it; what is read then is n.
func (r *reader) tailed(n *api.Node, ends func()) func() {
	return func() {
		n.Tail = r.notes()
		ends()
		r.n = n
	}
}

// item makes a step that reads what one reads, with the comments ahead.
func (r *reader) item(one func()) func() {
	return func() {
		notes := r.notes()
		r.plan(one, func() { r.n.Notes = notes })
	}
}

// row makes a step that reads things with that sign between into n, behind what is in it: at least one of them.
func (r *reader) row(n *api.Node, between string, one func()) func() {
	add := r.into(n)
	var more func()
	more = func() {
		if r.sign(between) {
			r.plan(one, add, more)
		}
	}
	return func() {
		r.plan(one, add, more)
	}
}
