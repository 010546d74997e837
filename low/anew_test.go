package low

import (
	"strings"

	"galley/api"
	"galley/doc"
	"galley/ops"
	"galley/parens"
)

// The chapter's words read anew, by doc's makers, each document from those that are in it; of trees of a few levels.

// docs are documents one behind the other.
type docs []api.Doc

// likes are lists of documents, documents and texts one behind the other.
func likes(l ...any) docs {
	var list docs
	for _, x := range l {
		switch x := x.(type) {
		case string:
			list = append(list, doc.Text(x))
		case api.Doc:
			list = append(list, x)
		case docs:
			list = append(list, x...)
		}
	}
	return list
}

// Those that hold nothing.
var (
	aLine = api.Doc{Kind: api.DLine}
	aSoft = api.Doc{Kind: api.DSoft}
	aHard = api.Doc{Kind: api.DHard}
)

func cat(l ...any) api.Doc  { return doc.Cat(likes(l...)...) }
func in4(l ...any) api.Doc  { return doc.Nest(4, likes(l...)...) }
func ours(l ...any) api.Doc { return doc.Group(likes(l...)...) }

func ourBox(broken bool, l ...any) api.Doc {
	if broken {
		return doc.Broken(likes(l...)...)
	}
	return ours(l...)
}

// anewAt is 19.1's At.
func anewAt(n api.Node, level int) api.Doc {
	if parens.Need(n, level) {
		return cat("(", anewExpr(n), ")")
	}
	return anewExpr(n)
}

// among tells whether s is one of the words of list.
func among(s, list string) bool {
	return s != "" && strings.Contains(" "+list+" ", " "+s+" ")
}

// commentsAhead are those of an item.
func commentsAhead(n api.Node) docs {
	var l docs
	for _, s := range n.Notes {
		l = append(l, doc.Text(s), aHard)
	}
	return l
}

// commentsBehind are those of a tail.
func commentsBehind(tail []string) docs {
	var l docs
	for _, s := range tail {
		l = append(l, aHard, doc.Text(s))
	}
	return l
}

// anewBox is 19.1's Box, and that of 19.2's NBin.
func anewBox(open string, l []api.Node, level int, end string, n api.Node) api.Doc {
	if len(l) == 0 && len(n.Tail) == 0 {
		return doc.Text(open + end)
	}
	var inner docs
	for k, x := range l {
		switch {
		case k == 0:
		case n.Kind == api.NList && n.Text == "|" && k == len(l)-1:
			inner = append(inner, aLine, doc.Text("| "))
		default:
			inner = append(inner, doc.Text(","), aLine)
		}
		inner = append(inner, commentsAhead(x)...)
		switch {
		case n.Kind == api.NBin:
			inner = append(inner, anewValue(x))
		case x.Kind == api.NOp && among(x.Text, "=> :="):
			inner = append(inner, anewExpr(x))
		default:
			inner = append(inner, anewAt(x, level))
		}
	}
	behind := commentsBehind(n.Tail)
	if len(l) == 0 {
		behind = behind[1:]
	}
	return ourBox(len(n.Tail) > 0 || n.Break, open, in4(aSoft, inner, behind), aSoft, end)
}

func anewValue(n api.Node) api.Doc {
	switch n.Kind {
	case api.NLit, api.NBin, api.NSeg:
		return anewExpr(n)
	}
	return cat("(", anewExpr(n), ")")
}

func anewFirst(n api.Node) api.Doc {
	if parens.Bare(n) {
		return anewExpr(n)
	}
	return cat("(", anewExpr(n), ")")
}

func anewName(n api.Node) api.Doc {
	if n.Kind == api.NLit && parens.Bare(n) {
		return doc.Text(n.Text)
	}
	return cat("(", anewExpr(n), ")")
}

// anewExpr is 19.2.
func anewExpr(n api.Node) api.Doc {
	switch n.Kind {
	case api.NLit:
		return doc.Text(n.Text)
	case api.NRef:
		return doc.Text("fun " + n.Text)
	case api.NCall:
		return cat(anewFirst(n.L[0]), anewBox("(", n.L[1:], 0, ")", n))
	case api.NRemote:
		return cat(anewName(n.L[0]), ":", anewName(n.L[1]))
	case api.NTuple:
		return anewBox("{", n.L, 0, "}", n)
	case api.NList:
		return anewBox("[", n.L, 3, "]", n)
	case api.NBin:
		return anewBox("<<", n.L, 11, ">>", n)
	case api.NSeg:
		return cat(anewValue(n.L[0]), n.Text)
	case api.NMap:
		return anewBox("#{", n.L, 1, "}", n)
	case api.NMapUp:
		return cat(anewFirst(n.L[0]), anewBox("#{", n.L[1:], 1, "}", n))
	case api.NRec:
		return anewBox("#"+n.Text+"{", n.L, 0, "}", n)
	case api.NRecUp:
		return cat(anewFirst(n.L[0]), anewBox("#"+n.Text+"{", n.L[1:], 0, "}", n))
	case api.NField:
		return cat(anewFirst(n.L[0]), "#"+n.Text)
	case api.NUn:
		return anewUn(n)
	case api.NOp:
		return anewOp(n)
	case api.NComp:
		return anewComp(n)
	case api.NCase:
		return cat("case ", anewAt(n.L[0], 0), " of", in4(aHard, anewClauses(n.L[1:], "case"), commentsBehind(n.Tail)), aHard, "end")
	case api.NIf:
		return cat("if", in4(aHard, anewClauses(n.L, "if"), commentsBehind(n.Tail)), aHard, "end")
	case api.NReceive:
		return anewReceive(n)
	case api.NBegin:
		return cat("begin", in4(aHard, anewBody(n.L[0]), commentsBehind(n.Tail)), aHard, "end")
	case api.NFun:
		return anewFun(n)
	}
	panic("no expression")
}

func anewUn(n api.Node) api.Doc {
	switch n.Text {
	case "catch":
		return cat("catch ", anewAt(n.L[0], 0))
	case "not", "bnot":
		return cat(n.Text+" ", anewAt(n.L[0], 10))
	}
	if below := n.L[0]; below.Kind == api.NUn && among(below.Text, "+ -") {
		return cat(n.Text, " ", anewAt(below, 10))
	}
	return cat(n.Text, anewAt(n.L[0], 10))
}

// levels are those of the operands of op.
func levels(op string) (left, right int) {
	switch op {
	case "=>", ":=":
		return 1, 1
	case "<-", "<=":
		return 3, 3
	}
	return ops.Left(op), ops.Right(op)
}

// operand is one of a row but the first one.
type operand struct {
	op    string
	n     api.Node
	level int
}

// rest are the operands of n's row but the first one.
func rest(n api.Node) []operand {
	right := n.L[1]
	if ops.Side(n.Text) == 2 && right.Kind == api.NOp && ops.Binary(right.Text) == ops.Binary(n.Text) {
		level, _ := levels(right.Text)
		return append([]operand{{n.Text, right.L[0], level}}, rest(right)...)
	}
	_, level := levels(n.Text)
	return []operand{{n.Text, right, level}}
}

func anewOp(n api.Node) api.Doc {
	a, b := n.L[0], n.L[1]
	if n.Text == "/" && a.Kind == api.NLit && parens.Bare(a) && b.Kind == api.NLit && strings.ContainsAny(b.Text[:1], "0123456789") && !strings.Contains(b.Text, ".") {
		return doc.Text(a.Text + "/" + b.Text)
	}
	level, _ := levels(n.Text)
	first := anewAt(a, level)
	var others docs
	lines := 0
	for _, x := range rest(n) {
		between := aLine
		if parens.Hugs(x.op, x.n) && !parens.Need(x.n, x.level) {
			between = doc.Text(" ")
		} else {
			lines++
		}
		others = append(others, doc.Text(" "+x.op), between, anewAt(x.n, x.level))
	}
	if lines == 0 {
		return cat(first, others)
	}
	return ours(first, in4(others))
}

func anewComp(n api.Node) api.Doc {
	var others docs
	for k, x := range n.L[1:] {
		if k > 0 {
			others = append(others, doc.Text(","), aLine)
		}
		if x.Kind == api.NOp && among(x.Text, "<- <=") {
			others = append(others, anewExpr(x))
		} else {
			others = append(others, anewAt(x, 3))
		}
	}
	return ourBox(n.Break, "[", in4(aSoft, anewAt(n.L[0], 3), aLine, "|| ", others), aSoft, "]")
}

func anewReceive(n api.Node) api.Doc {
	if n.Text == "" {
		return cat("receive", in4(aHard, anewClauses(n.L, "case"), commentsBehind(n.Tail)), aHard, "end")
	}
	l, after := n.L[:len(n.L)-1], n.L[len(n.L)-1]
	first := docs(nil)
	if len(l) > 0 {
		first = docs{in4(aHard, anewClauses(l, "case"))}
	}
	return cat("receive", first, aHard, commentsAhead(after), "after", in4(aHard, anewClause(after, "case"), commentsBehind(n.Tail)), aHard, "end")
}

func anewFun(n api.Node) api.Doc {
	if len(n.L) > 1 {
		return cat("fun", in4(aHard, anewClauses(n.L, "fun"), commentsBehind(n.Tail)), aHard, "end")
	}
	x := n.L[0]
	return ourBox(x.Break, "fun", anewArgs(x, "fun"), anewGuard(x, "fun"), " ->", in4(aLine, anewBody(x.L[2]), commentsBehind(n.Tail)), aLine, "end")
}

func anewClauses(l []api.Node, of string) docs {
	var list docs
	for k, x := range l {
		if k > 0 {
			list = append(list, doc.Text(";"), aHard)
		}
		list = append(append(list, commentsAhead(x)...), anewClause(x, of))
	}
	return list
}

// anewClause is 19.3's, of whose it is told.
func anewClause(n api.Node, of string) api.Doc {
	return ourBox(n.Break, n.Text, anewArgs(n, of), anewGuard(n, of), " ->", in4(aLine, anewBody(n.L[2])))
}

// anewAlone is 19.3's Clause itself.
func anewAlone(n api.Node) api.Doc {
	of := "fun"
	if n.Text == "" && len(n.L[0].L) == 1 {
		of = "case"
	}
	if n.Text == "" && len(n.L[0].L) == 0 && len(n.L[1].L) > 0 {
		of = "if"
	}
	return anewClause(n, of)
}

func anewArgs(n api.Node, of string) docs {
	switch of {
	case "fun":
		return likes(anewBox("(", n.L[0].L, 0, ")", n.L[0]))
	case "case":
		return likes(anewAt(n.L[0].L[0], 1))
	}
	return nil
}

func anewGuard(n api.Node, of string) docs {
	var list docs
	for k, alternative := range n.L[1].L {
		switch {
		case k > 0:
			list = append(list, doc.Text("; "))
		case of != "if":
			list = append(list, doc.Text(" when "))
		}
		for k, x := range alternative.L {
			if k > 0 {
				list = append(list, doc.Text(", "))
			}
			list = append(list, anewAt(x, 1))
		}
	}
	return list
}

// anewBody is 19.3's.
func anewBody(n api.Node) docs {
	var list docs
	for k, x := range n.L {
		if k > 0 {
			list = append(list, doc.Text(","), aHard)
			if x.Blank {
				list = append(list, aHard)
			}
		}
		list = append(append(list, commentsAhead(x)...), anewExpr(x))
	}
	return list
}
