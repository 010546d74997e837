package parse

import (
	"slices"
	"strings"

	"galley/api"
	"galley/gap"
)

// reader reads tokens one after the other. Its methods are called where what they read begins, and leave it behind that; they panic where it does not go on so. None of them reads over a comment but notes. They answer nodes by pointers: a text may nest as deep as it is long, and nodes themselves would fill the stack of calls.
type reader struct {
	s    string
	l    []api.Token // up to where it may read
	at   int         // which token is the next one
	deep int         // how many things are being read, one within the other, of those that may hold their own kind
}

// in is called where something begins that may hold its own kind. The tokens of a text are not as many as would be refused here; a list that is none of a text's must not use up the stack of calls.
func (r *reader) in() {
	r.deep++
	must(r.deep <= api.MaxBytes+1)
}

// out is called where something ends that may hold its own kind.
func (r *reader) out() {
	r.deep--
}

// next is the next token; behind the last one it is none, and of no kind.
func (r *reader) next() api.Token {
	if r.at < len(r.l) {
		return r.l[r.at]
	}
	return api.Token{}
}

// sees tells whether the next token is that sign.
func (r *reader) sees(text string) bool {
	t := r.next()
	return t.Kind == api.TSign && t.Text == text
}

// sign reads that sign, and tells whether it was there.
func (r *reader) sign(text string) bool {
	seen := r.sees(text)
	if seen {
		r.at++
	}
	return seen
}

// word reads that reserved word, and tells whether it was there.
func (r *reader) word(text string) bool {
	t := r.next()
	seen := t.Kind == api.TWord && t.Text == text
	if seen {
		r.at++
	}
	return seen
}

// text reads a token of one of the kinds, and answers what it says.
func (r *reader) text(kinds ...int) string {
	t := r.next()
	must(slices.Contains(kinds, t.Kind))
	r.at++
	return strings.Clone(t.Text)
}

// name reads a name.
func (r *reader) name() string {
	return r.text(api.TAtom, api.TVar, api.TMacro)
}

// amount reads what tells how many there are.
func (r *reader) amount() string {
	return r.text(api.TInt, api.TVar, api.TMacro)
}

// since is what was read from the token from on, without blanks.
func (r *reader) since(from int) string {
	var b strings.Builder
	for _, t := range r.l[from:r.at] {
		b.WriteString(t.Text)
	}
	return b.String()
}

// notes reads the comments that are next.
func (r *reader) notes() []string {
	var list []string
	for r.next().Kind == api.TComment {
		list = append(list, r.text(api.TComment))
	}
	return list
}

// comes tells whether that reserved word is the next token that is no comment; it reads nothing.
func (r *reader) comes(text string) bool {
	from := r.at
	r.notes()
	seen := r.word(text)
	r.at = from
	return seen
}

// broken tells whether a line ends ahead of the next token, be it a comment.
func (r *reader) broken() bool {
	return gap.Broken(r.s, r.l, r.at)
}

// blank tells whether a blank line stands ahead of the next token, be it a comment.
func (r *reader) blank() bool {
	return gap.Blank(r.s, r.l, r.at)
}

// row reads things with that sign between, at least one of them.
func (r *reader) row(between string, one func() *api.Node) []api.Node {
	var list []api.Node
next:
	list = append(list, *one())
	if r.sign(between) {
		goto next
	}
	return list
}
