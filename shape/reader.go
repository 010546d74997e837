package shape

import (
	"slices"
	"strings"

	"galley/api"
	"galley/gap"
	"galley/parse"
)

// Levels that an expression of a form has at least.
const (
	whole = 0 // all there is
	plain = 1 // all but catch
)

// reader reads the tokens of a form one after the other. Comments are read by notes alone, where they may be: at any other place they are tokens with which nothing goes on.
type reader struct {
	s    string
	l    []api.Token // up to what ends the form
	at   int         // which token is to be read next
	lost bool        // there is no such form
}

// done tells whether the form was read, and all of its tokens are in it.
func (r *reader) done() bool {
	return !r.lost && r.ended()
}

// ended tells whether no token is left.
func (r *reader) ended() bool {
	return r.at == len(r.l)
}

// must is for what there has to be. Where it is not, nothing is left to be read, so that all that goes on ends.
func (r *reader) must(ok bool) {
	if !ok {
		r.lost = true
		r.at = len(r.l)
	}
}

// next is the next token; behind the last one it is none, and of no kind.
func (r *reader) next() api.Token {
	if r.ended() {
		return api.Token{}
	}
	return r.l[r.at]
}

// sees tells whether the next token is of that kind and text.
func (r *reader) sees(kind int, text string) bool {
	t := r.next()
	return t.Kind == kind && t.Text == text
}

// takes reads the token of that kind and text, and tells whether it was there.
func (r *reader) takes(kind int, text string) bool {
	seen := r.sees(kind, text)
	if seen {
		r.at++
	}
	return seen
}

// sign reads that sign, and tells whether it was there.
func (r *reader) sign(text string) bool {
	return r.takes(api.TSign, text)
}

// word reads that reserved word, and tells whether it was there.
func (r *reader) word(text string) bool {
	return r.takes(api.TWord, text)
}

// name reads a token of one of the kinds, and answers what it says.
func (r *reader) name(kinds ...int) string {
	t := r.next()
	if !slices.Contains(kinds, t.Kind) {
		r.must(false)
		return ""
	}
	r.at++
	return strings.Clone(t.Text)
}

// notes reads the comments ahead of the next token that is none.
func (r *reader) notes() []string {
	var list []string
	for r.next().Kind == api.TComment {
		list = append(list, strings.Clone(r.next().Text))
		r.at++
	}
	return list
}

// broken tells whether a line ends ahead of what is to be read next, be it a comment.
func (r *reader) broken() bool {
	return gap.Broken(r.s, r.l, r.at)
}

// expr reads an expression with operators of at least that level.
func (r *reader) expr(level int) api.Node {
	n, at, e := parse.Expr(r.s, r.l, r.at, len(r.l), level)
	return r.read(n, at, e)
}

// body reads expressions with commas between, each with the comments ahead of it.
func (r *reader) body() api.Node {
	n, at, e := parse.Body(r.s, r.l, r.at, len(r.l))
	return r.read(n, at, e)
}

// read goes on behind what was read up to at, unless there was an error.
func (r *reader) read(n api.Node, at, e int) api.Node {
	r.at = at
	r.must(e == api.OK)
	return n
}
