package render

import (
	"math"
	"math/rand"
	"runtime/debug"
	"slices"
	"strconv"
	"strings"
	"testing"
	"unsafe"

	"galley/api"
	"galley/cell"
	"galley/doc"
	"galley/flat"
)

// Those that hold nothing.
var (
	line = api.Doc{Kind: api.DLine}
	soft = api.Doc{Kind: api.DSoft}
	hard = api.Doc{Kind: api.DHard}
)

// spell is all of d as one text, another one for each document.
func spell(d api.Doc) string {
	s := "(" + strconv.Itoa(d.Kind) + " " + strconv.Itoa(d.N) + strconv.Quote(d.Text)
	for _, x := range d.L {
		s += spell(x)
	}
	return s + ")"
}

// marks are modes as one text: + of what is flat, - of what is not.
func marks(modes []bool) string {
	s := make([]byte, len(modes))
	for k, is := range modes {
		s[k] = '-'
		if is {
			s[k] = '+'
		}
	}
	return string(s)
}

// told is what the calls answer of one document at one width.
type told struct {
	text  string
	e     int
	modes string
}

// asked is what they answer of d.
func asked(d api.Doc, width int) told {
	text, e := Render(d, width)
	return told{text, e, marks(Modes(d, width))}
}

// taken is a part of the chapter's row.
type taken struct {
	d     api.Doc
	right int
	flat  bool
}

// all are the parts of a row.
func all(row []taken) []api.Doc {
	var l []api.Doc
	for _, x := range row {
		l = append(l, x.d)
	}
	return l
}

// anew is the chapter's words read anew, word for word; of documents of few parts.
func anew(d api.Doc, width int) told {
	if !doc.May(d) || width < 1 || width > 10000 {
		return told{e: api.ErrArg}
	}
	var text, modes string
	column, pending := 0, 0
	write := func(s string) {
		if s != "" {
			text += strings.Repeat(" ", pending) + s
			pending = 0
		}
		column += cell.Width(s)
	}
	row := []taken{{d, 0, false}}
	for len(row) > 0 {
		x := row[0]
		row = row[1:]
		inner := x
		switch {
		case x.d.Kind == api.DText:
			write(x.d.Text)
		case x.d.Kind == api.DLine && x.flat:
			write(" ")
		case x.d.Kind == api.DSoft && x.flat:
		case x.d.Kind == api.DLine || x.d.Kind == api.DSoft || x.d.Kind == api.DHard:
			text += "\n"
			column, pending = x.right, x.right
		case x.d.Kind == api.DNest:
			inner.right += x.d.N
		case x.d.Kind == api.DGroup:
			if !x.flat && !doc.Forced(x.d) && column+flat.Width(x.d)+flat.First(all(row)) <= width {
				inner.flat = true
			}
			modes += marks([]bool{inner.flat})
		}
		if len(x.d.L) > 0 {
			var within []taken
			for _, y := range x.d.L {
				within = append(within, taken{y, inner.right, inner.flat})
			}
			row = append(within, row...)
		}
	}
	return told{text, 0, modes}
}

// hold holds what is answered of d against the chapter's words read anew.
func hold(t *testing.T, d api.Doc, width int) {
	t.Helper()
	if got, want := asked(d, width), anew(d, width); got != want {
		t.Fatalf("%s at %d: %+v, not %+v", spell(d), width, got, want)
	}
}

// 17.1, 17.2: the chapter's example, ordinary documents, and the edges.
func TestTold(t *testing.T) {
	text, cat, nest, group, broken := doc.Text, doc.Cat, doc.Nest, doc.Group, doc.Broken
	example := group(text("a"), line, text("b"))
	call := group(text("f("), nest(4, soft, text("a,"), line, text("b")), soft, text(")"))
	within := group(text("g("), nest(4, soft, text("x,"), line, call), soft, text(")"))
	for _, x := range []struct {
		name  string
		d     api.Doc
		width int
		text  string
		modes string
	}{
		{"the chapter's", example, 3, "a b", "+"},
		{"the chapter's, too wide", example, 2, "a\nb", "-"},
		{"nothing", cat(), 1, "", ""},
		{"a text", text("ab"), 1, "ab", ""},
		{"a text of no bytes", text(""), 1, "", ""},
		{"a line in no group", cat(text("a"), line, text("b")), 10000, "a\nb", ""},
		{"a soft in no group", cat(text("a"), soft, text("b")), 10000, "a\nb", ""},
		{"a newline", hard, 80, "\n", ""},
		{"a line alone", line, 80, "\n", ""},
		{"a flat line alone", group(line), 80, " ", "+"},
		{"a flat soft alone", group(soft), 80, "", "+"},
		{"a call", call, 7, "f(a, b)", "+"},
		{"a call, too wide", call, 6, "f(\n    a,\n    b\n)", "-"},
		{"a call in one", within, 13, "g(x, f(a, b))", "++"},
		{"a call in one, too wide", within, 12, "g(\n    x,\n    f(a, b)\n)", "-+"},
		{"a call in one, at its edge", within, 11, "g(\n    x,\n    f(a, b)\n)", "-+"},
		{"both are too wide", within, 10, "g(\n    x,\n    f(\n        a,\n        b\n    )\n)", "--"},
		{"a broken group", broken(text("a"), line, text("b")), 80, "a\nb", "-"},
		{"a broken group breaks what it is in", group(text("a"), line, broken(text("b")), group(text("c"), line)), 80, "a\nbc ", "--+"},
		{"a newline breaks its group", group(text("a"), line, cat(hard), text("b")), 80, "a\n\nb", "-"},
		{"a newline behind breaks none", cat(example, hard), 80, "a b\n", "+"},
		{"a group in a broken one", broken(example, soft, example), 3, "a b\na b", "-++"},
		{"groups in a flat one", group(group(group(soft), line), group()), 80, " ", "++++"},
		{"what follows counts", cat(example, text("c"), text("d")), 4, "a\nbcd", "-"},
		{"what follows just fits", cat(example, text("c"), text("d")), 5, "a bcd", "+"},
		{"what follows a line does not count", cat(example, text("c"), line, text("def")), 4, "a bc\ndef", "+"},
		{"what follows a soft does not count", cat(example, text("c"), soft, text("def")), 4, "a bc\ndef", "+"},
		{"what follows a newline does not count", cat(example, text("c"), hard, text("def")), 4, "a bc\ndef", "+"},
		{"what follows in a group counts up to its line", cat(example, group(text("c"), line, text("de"))), 4, "a bc\nde", "+-"},
		{"what follows in what is around", cat(cat(nest(1, example), cat()), text("cd")), 4, "a\n bcd", "-"},
		{"a line that follows is flat", cat(example, group(line, text("c"))), 5, "a b c", "++"},
		{"a group of nothing at the edge", cat(text("ab"), group()), 2, "ab", "+"},
		{"a group of nothing beyond the edge", cat(text("abc"), group(), group(soft)), 2, "abc\n", "--"},
		{"a group behind what is too wide", cat(text("abcd"), line, example), 3, "abcd\na b", "+"},
		{"code points", group(text("é"), line, text("𝄞")), 3, "é 𝄞", "+"},
		{"bytes that are none", group(text("\xff"), line, text("\xe2\x82")), 4, "\xff \xe2\x82", "+"},
		{"bytes that are none, too wide", group(text("\xff"), line, text("\xe2\x82")), 3, "\xff\n\xe2\x82", "-"},
		{"a tab is one", group(text("\t"), line, text("\r")), 3, "\t \r", "+"},
		{"no blanks without a text", nest(4, hard, hard, line, soft), 80, "\n\n\n\n", ""},
		{"no blanks for a text of no bytes", nest(4, hard, text(""), hard, text("a"), hard), 80, "\n\n    a\n", ""},
		{"no blanks at the end", nest(4, text("a"), hard, text("")), 80, "a\n", ""},
		{"no blanks ahead of the first line", nest(4, text("a"), hard, text("b")), 80, "a\n    b", ""},
		{"a flat line's blank", nest(4, hard, group(line)), 80, "\n     ", "+"},
		{"a flat line's blank behind a text of no bytes", nest(2, hard, text(""), group(text(""), line), text("a")), 80, "\n   a", "+"},
		{"a flat soft writes no blanks", nest(4, hard, group(soft), hard), 80, "\n\n", "+"},
		{"blanks once", nest(2, hard, text("a"), text("b"), group(line), text("c")), 80, "\n  ab c", "+"},
		{"the blanks of the last newline", cat(nest(4, hard), nest(2, hard), nest(8, text("a"))), 80, "\n\n  a", ""},
		{"nested by the newline, not by the text", cat(nest(4, hard), text("a"), nest(4, hard), hard, text("b")), 80, "\n    a\n\nb", ""},
		{"blanks count", nest(4, hard, example), 7, "\n    a b", "+"},
		{"blanks count, too wide", nest(4, hard, example), 6, "\n    a\n    b", "-"},
		{"blanks count ahead of the group's text", nest(4, hard, group(text(""), line)), 4, "\n\n", "-"},
		{"a newline's column behind a wide text", cat(text("abcdef"), nest(1, hard, example)), 4, "abcdef\n a b", "+"},
		{"nests in each other", nest(1, nest(2, hard, nest(4, text("a"), hard, text("b")), hard, text("c")), hard, text("d")), 80, "\n   a\n       b\n   c\n d", ""},
		{"a nest in a group", group(text("a"), nest(2, line, text("b"), nest(3, line, text("c"))), line, text("d")), 6, "a\n  b\n     c\nd", "-"},
		{"a nest of nothing", nest(0, text("a"), hard, text("b")), 80, "a\nb", ""},
		{"a nest as far as may be", nest(1000, hard, text("a")), 80, "\n" + strings.Repeat(" ", 1000) + "a", ""},
		{"beyond all columns", nest(1000, nest(1000, hard, group(), text("a"))), 1999, "\n" + strings.Repeat(" ", 2000) + "a", "-"},
	} {
		t.Run(x.name, func(t *testing.T) {
			if got, want := asked(x.d, x.width), (told{x.text, 0, x.modes}); got != want {
				t.Errorf("%+v, not %+v", got, want)
			}
			hold(t, x.d, x.width)
		})
	}
}

// 17.1 ErrArg: widths that may not be, and documents that may not.
func TestMay(t *testing.T) {
	fine := doc.Group(doc.Text("a"), line, doc.Text("b"))
	for _, width := range []int{math.MinInt, -1, 0, 10001, 65536, 1<<32 + 80, math.MaxInt} {
		if got := asked(fine, width); got != (told{e: api.ErrArg}) {
			t.Errorf("at %d: %+v", width, got)
		}
	}
	for _, width := range []int{1, 2, 80, 9999, 10000} {
		if got := asked(fine, width); got.e != api.OK || got.text == "" || len(got.modes) != 1 {
			t.Errorf("at %d: %+v", width, got)
		}
	}
	for _, d := range []api.Doc{
		{},
		{Kind: 8},
		{Kind: -1, L: []api.Doc{fine}},
		doc.Text("a\n"),
		doc.Nest(1001, fine),
		doc.Nest(-1, fine),
		{Kind: api.DGroup, N: 2, L: []api.Doc{fine}},
		{Kind: api.DHard, Text: "a"},
		{Kind: api.DLine, L: []api.Doc{fine}},
		{Kind: api.DCat, N: 1, L: []api.Doc{fine}},
		doc.Cat(fine, doc.Nest(4, doc.Group(fine, api.Doc{}))),
		chain(200001, api.DGroup, line),
		{Kind: api.DCat, L: slices.Repeat([]api.Doc{soft}, 2000000)},
	} {
		for _, width := range []int{0, 1, 80, 10000} {
			if got := asked(d, width); got != (told{e: api.ErrArg}) {
				t.Errorf("%+v", got)
			}
		}
	}
}

// rows calls do with all lists of up to so many parts in all, of each kind that may be.
func rows(count int, do func(l []api.Doc)) {
	do(nil)
	for own := 1; own <= count; own++ {
		rows(own-1, func(below []api.Doc) {
			if size(below) != own-1 {
				return
			}
			for _, x := range parts(below) {
				rows(count-own, func(others []api.Doc) {
					do(append([]api.Doc{x}, others...))
				})
			}
		})
	}
}

// size is how many parts there are in l.
func size(l []api.Doc) int {
	count := 0
	for _, x := range l {
		count += 1 + size(x.L)
	}
	return count
}

// parts are those of each kind that have just l in them.
func parts(l []api.Doc) []api.Doc {
	list := []api.Doc{{Kind: api.DCat, L: l}, {Kind: api.DNest, N: 2, L: l}, {Kind: api.DGroup, L: l}, {Kind: api.DGroup, N: 1, L: l}}
	if len(l) == 0 {
		list = append(list, line, soft, hard, doc.Text(""), doc.Text("éb"))
	}
	return list
}

// 17.1, 17.2: every document of up to four parts, alone and behind a text, at small widths.
func TestSmall(t *testing.T) {
	seen := 0
	rows(4, func(l []api.Doc) {
		seen++
		for width := 1; width <= 5; width++ {
			hold(t, api.Doc{Kind: api.DGroup, L: l}, width)
			hold(t, api.Doc{Kind: api.DNest, N: 1, L: slices.Concat([]api.Doc{soft, doc.Text("a")}, l)}, width)
		}
	})
	if seen < 20000 {
		t.Error(seen)
	}
}

// grown is a document of some parts, what they are by chance; few of them may not be.
func grown(r *rand.Rand, deep int) api.Doc {
	d := api.Doc{Kind: []int{1, 1, 1, 1, 2, 2, 3, 4, 5, 6, 6, 7, 7, 7}[r.Intn(14)]}
	if d.Kind == api.DHard && r.Intn(4) > 0 {
		d.Kind = api.DSoft
	}
	if d.Kind == api.DText {
		d.Text = []string{"", "a", "bc", "é", "\xff", "def ghi"}[r.Intn(6)]
	}
	if d.Kind == api.DNest {
		d.N = []int{0, 1, 2, 4, 4, 4, 17}[r.Intn(7)]
	}
	if d.Kind == api.DGroup && r.Intn(16) == 0 {
		d.N = 1
	}
	for d.Kind >= api.DCat && deep > 0 && r.Intn(5) > 0 {
		d.L = append(d.L, grown(r, deep-1))
	}
	if r.Intn(2000) == 0 {
		d.N++
	}
	return d
}

// 17.1, 17.2: documents of all sorts at all sorts of widths.
func TestGrown(t *testing.T) {
	r := rand.New(rand.NewSource(17))
	seen := map[rune]int{}
	for range 6000 {
		d := api.Doc{Kind: api.DGroup, L: []api.Doc{grown(r, 4), grown(r, 4), grown(r, 4)}}
		for _, width := range []int{1 + r.Intn(10), 1 + r.Intn(30), 1 + r.Intn(100)} {
			hold(t, d, width)
			for _, mark := range asked(d, width).modes {
				seen[mark]++
			}
		}
	}
	if seen['+'] < 10000 || seen['-'] < 10000 {
		t.Error(seen)
	}
}

// fenced is a document by chance in which each group stands between < and >, and may have newlines in it.
func fenced(r *rand.Rand, deep int) api.Doc {
	var l []api.Doc
	for range r.Intn(5) {
		switch k := r.Intn(10); {
		case k < 3:
			l = append(l, doc.Text(strings.Repeat("a", r.Intn(6))))
		case k < 5:
			l = append(l, []api.Doc{line, soft}[r.Intn(2)])
		case k < 6 && r.Intn(6) == 0:
			l = append(l, hard)
		case k >= 6 && deep > 0:
			l = append(l, fenced(r, deep-1))
		}
	}
	return doc.Group(doc.Text("<"), doc.Nest(r.Intn(5), l...), doc.Text(">"))
}

// 17.3: a group that is flat ends within the width; the lines of one that is not do so only if it has none, or if a newline is in it, or if it would not.
func TestFits(t *testing.T) {
	r := rand.New(rand.NewSource(3))
	flatOnes, others := 0, 0
	for range 20000 {
		d := fenced(r, 4)
		width := 1 + r.Intn(30)
		text, _ := Render(d, width)
		modes := Modes(d, width)
		if is := !doc.Forced(d) && flat.Width(d) <= width; modes[0] != is {
			t.Fatalf("%s at %d: %v", spell(d), width, modes)
		}
		next, column := 0, 0
		var open []bool
		for _, c := range text {
			column++
			switch c {
			case '\n':
				column = 0
				if slices.Contains(open, true) {
					t.Fatalf("%s at %d: a line ends in a flat group", spell(d), width)
				}
			case '<':
				open = append(open, modes[next])
				next++
			case '>':
				if open[len(open)-1] {
					flatOnes++
					if column > width {
						t.Fatalf("%s at %d: %q", spell(d), width, text)
					}
				} else {
					others++
				}
				open = open[:len(open)-1]
			}
		}
		if next != len(modes) || len(open) != 0 {
			t.Fatalf("%s at %d: %d groups of %d", spell(d), width, next, len(modes))
		}
	}
	if flatOnes < 10000 || others < 10000 {
		t.Error(flatOnes, others)
	}
}

// chain is so many parts of that kind, each in the one above and behind others there, the last one of which is d.
func chain(deep, kind int, d api.Doc, others ...api.Doc) api.Doc {
	for range deep - 1 {
		d = api.Doc{Kind: kind, L: append(slices.Clone(others), d)}
	}
	return d
}

// Rule 1: the deepest documents, and those of the most parts; the stack of calls is kept small, so that one that grew with them would break.
func TestGreat(t *testing.T) {
	defer debug.SetMaxStack(debug.SetMaxStack(1 << 20))
	const deep, many = 200000, 2000000
	a := doc.Text("a")
	empty := api.Doc{Kind: api.DGroup}
	for _, x := range []struct {
		name  string
		d     api.Doc
		text  string
		modes string
	}{
		{"rows in each other", chain(deep, api.DCat, a, a, line), strings.Repeat("a\n", deep-1) + "a", ""},
		{"groups in each other, too wide", chain(deep, api.DGroup, doc.Text(strings.Repeat("a", 81))), strings.Repeat("a", 81), strings.Repeat("-", deep-1)},
		{"groups in each other that fit", chain(deep, api.DGroup, doc.Text("a")), "a", strings.Repeat("+", deep-1)},
		{"groups in each other with a newline in the last one", chain(deep, api.DGroup, hard, a), strings.Repeat("a", deep-1) + "\n", strings.Repeat("-", deep-1)},
		{"groups in each other, each with a text and a line", chain(deep, api.DGroup, a, a, line), strings.Repeat("a\n", deep-1-39) + strings.Repeat("a ", 39) + "a", strings.Repeat("-", deep-1-39) + strings.Repeat("+", 39)},
		{"nests that move nothing", chain(deep, api.DNest, a, hard), strings.Repeat("\n", deep-1) + "a", ""},
		{"groups behind each other", api.Doc{Kind: api.DCat, L: slices.Repeat([]api.Doc{empty}, many-1)}, "", strings.Repeat("+", many-1)},
		{"groups behind each other, and what is too wide", api.Doc{Kind: api.DCat, L: append(slices.Repeat([]api.Doc{empty}, many-2), doc.Text(strings.Repeat("b", 81)))}, strings.Repeat("b", 81), strings.Repeat("-", many-2)},
		{"lines", api.Doc{Kind: api.DGroup, L: slices.Repeat([]api.Doc{line}, many-1)}, strings.Repeat("\n", many-1), "-"},
	} {
		t.Run(x.name, func(t *testing.T) {
			got := asked(x.d, 80)
			if got.e != api.OK || got.text != x.text || got.modes != x.modes {
				t.Errorf("%d, %d bytes, not %d; %d groups, not %d", got.e, len(got.text), len(x.text), len(got.modes), len(x.modes))
			}
		})
	}
}

// 17.1: nests that move a line further together than one may, and further than the blanks that are made at once.
func TestFar(t *testing.T) {
	for _, deep := range []int{1, 20, 21, 45} {
		d := doc.Cat(hard, doc.Text("a"), doc.Group(line, doc.Text("b")), hard)
		for range deep {
			d = doc.Nest(1000, d)
		}
		for _, width := range []int{1, 1003, 10000} {
			want := told{"\n" + strings.Repeat(" ", 1000*deep) + "a b\n", 0, "+"}
			if 1000*deep+3 > width {
				want = told{strings.ReplaceAll(want.text, "a b", "a\n"+strings.Repeat(" ", 1000*deep)+"b"), 0, "-"}
			}
			if got := asked(d, width); got != want {
				t.Errorf("%d nests at %d: %d bytes, %s", deep, width, len(got.text), got.modes)
			}
		}
	}
}

// 17.2: what is asked for is few, even where a text would have more bytes than there are.
func TestModesAlone(t *testing.T) {
	d := doc.Text("a")
	group := doc.Group(line)
	const deep = 150000
	for range deep {
		d = api.Doc{Kind: api.DNest, N: 1000, L: []api.Doc{hard, group, d}}
	}
	// The first nine newlines end in a column from which a blank fits, 10,000 wide; the tenth is nested as far as that.
	if got := marks(Modes(d, 10000)); got != strings.Repeat("+", 9)+strings.Repeat("-", deep-9) {
		t.Errorf("%d groups: %.20s", len(got), got)
	}
}

// Rules 2 and 3: what is asked of is not changed and not kept, and is answered alike again.
func TestAgain(t *testing.T) {
	r := rand.New(rand.NewSource(2))
	for range 1000 {
		d := grown(r, 5)
		want := spell(d)
		first := asked(d, 20)
		modes := Modes(d, 20)
		for k := range modes {
			modes[k] = !modes[k]
		}
		if asked(d, 20) != first || spell(d) != want {
			t.Fatal(want)
		}
	}
	word := strings.Clone("abc")
	if text, _ := Render(api.Doc{Kind: api.DText, Text: word}, 80); unsafe.StringData(text) == unsafe.StringData(word) {
		t.Error("Render answers what was handed in")
	}
}

// Rule 5: a nil list and an empty one are the same.
func TestEmpty(t *testing.T) {
	for kind := -1; kind <= 9; kind++ {
		if asked(api.Doc{Kind: kind}, 80) != asked(api.Doc{Kind: kind, L: make([]api.Doc, 0, 4)}, 80) {
			t.Errorf("kind %d", kind)
		}
	}
}
