package parse

import (
	"slices"
	"strings"

	"galley/api"
	"galley/gap"
)

// reader reads tokens one after the other, by steps: a step reads what is next, leaves in n what it has read, and panics where it does not go on so. What may hold its own kind is not read by a step itself, but planned: what is still to be done stands in a list, not in the stack of calls, as nests may be as deep as there are tokens.
type reader struct {
	s    string
	l    []api.Token // up to where it may read
	at   int         // which token is to be read next, be it a comment
	past int         // no token from at up to it is anything but a comment
	todo []func()    // steps that are still to be done, the last one first
	n    *api.Node   // what was read last
}

// plan has the steps done in their order, ahead of all that was planned before.
func (r *reader) plan(steps ...func()) {
	for k := len(steps) - 1; k >= 0; k-- {
		r.todo = append(r.todo, steps[k])
	}
}

// run does what is planned, and what is planned by that, until nothing is left.
func (r *reader) run() {
again:
	if last := len(r.todo) - 1; last >= 0 {
		step := r.todo[last]
		r.todo = r.todo[:last]
		step()
		goto again
	}
}

// next is the next token that is no comment: comments are not looked at. Behind the last one it is none, and of no kind.
func (r *reader) next() api.Token {
	// It goes on from where it was the last time: all that is open may ask it at one place.
	r.past = max(r.past, r.at)
again:
	if r.past == len(r.l) {
		return api.Token{}
	}
	if r.l[r.past].Kind == api.TComment {
		r.past++
		goto again
	}
	return r.l[r.past]
}

// near tells whether no comment stands ahead of the next token.
func (r *reader) near() bool {
	r.next()
	return r.past == r.at
}

// take reads the next token. No comment may stand ahead of it: those that may are read by notes.
func (r *reader) take() {
	must(r.near())
	r.at++
}

// sees tells whether the next token is that sign.
func (r *reader) sees(text string) bool {
	t := r.next()
	return t.Kind == api.TSign && t.Text == text
}

// sign reads that sign, and tells whether it was there.
func (r *reader) sign(text string) bool {
	seen := r.sees(text)
	if seen {
		r.take()
	}
	return seen
}

// comes tells whether the next token is that reserved word.
func (r *reader) comes(text string) bool {
	t := r.next()
	return t.Kind == api.TWord && t.Text == text
}

// word reads that reserved word, and tells whether it was there.
func (r *reader) word(text string) bool {
	seen := r.comes(text)
	if seen {
		r.take()
	}
	return seen
}

// text reads a token of one of the kinds, and answers what it says.
func (r *reader) text(kinds ...int) string {
	t := r.next()
	must(slices.Contains(kinds, t.Kind))
	r.take()
	return strings.Clone(t.Text)
}

// name reads a name.
func (r *reader) name() string {
	return r.text(api.TAtom, api.TVar, api.TMacro)
}

// amount reads what tells how many there are.
func (r *reader) amount() string {
	return r.text(api.TInt, api.TVar, api.TMacro)
}

// since is what was read from the token from on, without blanks.
func (r *reader) since(from int) string {
	var b strings.Builder
	for _, t := range r.l[from:r.at] {
		b.WriteString(t.Text)
	}
	return b.String()
}

// notes reads the comments ahead of the next token.
func (r *reader) notes() []string {
	var list []string
again:
	if !r.near() {
		list = append(list, strings.Clone(r.l[r.at].Text))
		r.at++
		goto again
	}
	return list
}

// broken tells whether a line ends ahead of what is to be read next, be it a comment.
func (r *reader) broken() bool {
	return gap.Broken(r.s, r.l, r.at)
}

// blank tells whether a blank line stands ahead of what is to be read next, be it a comment.
func (r *reader) blank() bool {
	return gap.Blank(r.s, r.l, r.at)
}
