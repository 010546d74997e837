package flat

import (
	"math"
	"math/rand"
	"runtime/debug"
	"slices"
	"strconv"
	"strings"
	"testing"
	"unicode/utf8"
	"unsafe"

	"galley/api"
	"galley/cell"
	"galley/doc"
)

// Those that hold nothing.
var (
	line = api.Doc{Kind: api.DLine}
	soft = api.Doc{Kind: api.DSoft}
	hard = api.Doc{Kind: api.DHard}
)

// spell is all of d as one text, another one for each document.
func spell(d api.Doc) string {
	s := "(" + strconv.Itoa(d.Kind) + " " + strconv.Itoa(d.N) + strconv.Quote(d.Text)
	for _, x := range d.L {
		s += spell(x)
	}
	return s + ")"
}

// told is what the calls answer of one document, First of it alone.
type told struct {
	text         string
	ok           bool
	width, first int
}

// asked is what they answer of d.
func asked(d api.Doc) told {
	text, ok := Flat(d)
	return told{text, ok, Width(d), First([]api.Doc{d})}
}

// read is the chapter's words read anew: the text that d has on one line, how wide that is, and of both what stands ahead of the first line, soft or newline; end tells whether there is one.
func read(d api.Doc) (text string, width, first int, end, forced bool) {
	switch d.Kind {
	case 1:
		text, width = d.Text, utf8.RuneCountInString(d.Text)
		first = width
	case 2:
		text, width, end = " ", 1, true
	case 3, 4:
		end = true
	}
	forced = d.Kind == 4 || d.Kind == 7 && d.N == 1
	for _, x := range d.L {
		s, w, f, e, must := read(x)
		forced = forced || must
		if d.Kind >= 1 && d.Kind <= 4 {
			continue
		}
		text += s
		width += w
		if !end {
			first += f
		}
		end = end || e
	}
	return text, width, first, end, forced
}

// anew is what the words ask for of d.
func anew(d api.Doc) told {
	text, width, first, _, forced := read(d)
	if forced {
		text = ""
	}
	return told{text, !forced, width, first}
}

// hold holds what is answered of d against the chapter's words read anew.
func hold(t *testing.T, d api.Doc) {
	t.Helper()
	if got, want := asked(d), anew(d); got != want {
		t.Fatalf("%s: %v, not %v", spell(d), got, want)
	}
}

// 16.1, 16.2: the chapter's example, ordinary documents, the edges, and what may not be.
func TestTold(t *testing.T) {
	text, cat, nest, group := doc.Text, doc.Cat, doc.Nest, doc.Group
	for _, x := range []struct {
		name string
		d    api.Doc
		want told
	}{
		{"the chapter's", cat(text("a"), line, text("b")), told{"a b", true, 3, 1}},
		{"a text", text("ab"), told{"ab", true, 2, 2}},
		{"a text of no bytes", text(""), told{"", true, 0, 0}},
		{"code points", text("é𝄞"), told{"é𝄞", true, 2, 2}},
		{"bytes that are none", text("\xff\xe2\x82"), told{"\xff\xe2\x82", true, 3, 3}},
		{"a code point in two texts", cat(text("\xc3"), text("\xa9")), told{"é", true, 2, 2}},
		{"blanks", text(" \t\r"), told{" \t\r", true, 3, 3}},
		{"a line", line, told{" ", true, 1, 0}},
		{"a soft", soft, told{"", true, 0, 0}},
		{"a newline", hard, told{"", false, 0, 0}},
		{"no parts", cat(), told{"", true, 0, 0}},
		{"no parts, nested", nest(4), told{"", true, 0, 0}},
		{"no parts, grouped", group(), told{"", true, 0, 0}},
		{"no parts, broken", doc.Broken(), told{"", false, 0, 0}},
		{"a nest does not count", nest(1000, text("a"), line, text("b")), told{"a b", true, 3, 1}},
		{"a call", group(text("f("), nest(4, soft, text("a,"), line, text("b")), soft, text(")")), told{"f(a, b)", true, 7, 2}},
		{"a row", cat(text("a"), text("bc"), text("d")), told{"abcd", true, 4, 4}},
		{"lines behind each other", cat(line, line, soft, line), told{"   ", true, 3, 0}},
		{"a newline ahead", cat(hard, text("a")), told{"", false, 1, 0}},
		{"a newline behind", cat(text("a"), line, text("b"), hard), told{"", false, 3, 1}},
		{"a newline within", cat(text("ab"), hard, text("c"), line), told{"", false, 4, 2}},
		{"a broken group", cat(text("a"), doc.Broken(text("b"), line, text("c"))), told{"", false, 4, 2}},
		{"a newline far down", group(text("a"), nest(4, group(cat(text("b"), hard), text("c")))), told{"", false, 3, 2}},
		{"first goes all the way down", cat(cat(text("a"), group(text("b"), nest(4, text("c"), cat(), soft, text("d"))))), told{"abcd", true, 4, 3}},
		{"first ends in what is ahead", cat(group(line), text("abc")), told{" abc", true, 4, 0}},
		{"a text that has a byte 10", text("a\nb"), told{"a\nb", true, 3, 3}},
		{"what is no kind", api.Doc{Text: "a"}, told{"", true, 0, 0}},
		{"what is no kind goes on", api.Doc{Kind: 8, Text: "x", L: []api.Doc{text("a"), line}}, told{"a ", true, 2, 1}},
		{"a row with a text", api.Doc{Kind: api.DCat, Text: "x", L: []api.Doc{text("a")}}, told{"a", true, 1, 1}},
		{"a line with a text", api.Doc{Kind: api.DLine, Text: "xy"}, told{" ", true, 1, 0}},
		{"a text with parts", api.Doc{Kind: api.DText, Text: "a", L: []api.Doc{text("b")}}, told{"a", true, 1, 1}},
		{"a text with a newline in it", api.Doc{Kind: api.DText, Text: "a", L: []api.Doc{hard}}, told{"", false, 1, 1}},
		{"a newline with parts", api.Doc{Kind: api.DHard, L: []api.Doc{text("a")}}, told{"", false, 0, 0}},
		{"a group of 2", api.Doc{Kind: api.DGroup, N: 2, L: []api.Doc{text("a")}}, told{"a", true, 1, 1}},
	} {
		t.Run(x.name, func(t *testing.T) {
			if got := asked(x.d); got != x.want {
				t.Errorf("%s: %v", spell(x.d), got)
			}
			hold(t, x.d)
		})
	}
}

// 16.2 First of lists: one behind the other, up to the first place where a line may end.
func TestFirst(t *testing.T) {
	text, cat := doc.Text, doc.Cat
	for _, x := range []struct {
		name string
		l    []api.Doc
		want int
	}{
		{"nil", nil, 0},
		{"empty", []api.Doc{}, 0},
		{"all", []api.Doc{text("ab"), text("é"), cat(text("c"))}, 4},
		{"a line", []api.Doc{text("ab"), line, text("c")}, 2},
		{"a soft", []api.Doc{text("ab"), soft, text("c")}, 2},
		{"a newline", []api.Doc{text("ab"), hard, text("c")}, 2},
		{"a line ahead", []api.Doc{line, text("ab")}, 0},
		{"a soft ahead", []api.Doc{soft, text("ab")}, 0},
		{"a newline ahead", []api.Doc{hard, text("ab")}, 0},
		{"a line in a group", []api.Doc{text("ab"), doc.Group(text("c"), line), text("d")}, 3},
		{"a line in a nest", []api.Doc{text("ab"), doc.Nest(9, line, text("c")), text("d")}, 2},
		{"a broken group of a text", []api.Doc{text("ab"), doc.Broken(text("c")), text("d")}, 4},
		{"rows of nothing", []api.Doc{cat(), text("ab"), cat(cat(), doc.Group()), text("c")}, 3},
		{"behind what holds nothing", []api.Doc{cat(cat(cat())), text("a"), cat(soft)}, 1},
	} {
		t.Run(x.name, func(t *testing.T) {
			if got := First(x.l); got != x.want {
				t.Errorf("%d, not %d", got, x.want)
			}
		})
	}
}

// numbers are those of kinds and of N that count, those beside them, and those that only look so when they are cut.
var numbers = []int{math.MinInt, math.MinInt32, -7, -2, -1, 0, 1, 2, 3, 4, 5, 6, 7, 8, 255, 1 << 16, 1<<32 + 1, 1<<32 + 4, 1<<32 + 7, math.MaxInt}

// 16.1, 16.2, rule 7: every part of these, alone, and among others, far down.
func TestAlone(t *testing.T) {
	for _, kind := range numbers {
		for _, n := range numbers {
			for _, text := range []string{"", "a", "\n", "é𝄞", "\xff\x00"} {
				for _, l := range [][]api.Doc{nil, {}, {line}, {{}}, {hard, soft}, {{Kind: api.DText, Text: "bc"}, soft}, {soft, {Kind: api.DGroup, N: 1}}} {
					d := api.Doc{Kind: kind, N: n, Text: text, L: l}
					hold(t, d)
					hold(t, doc.Cat(doc.Text("x"), doc.Nest(4, doc.Group(d)), doc.Text("yz"), line))
				}
			}
		}
	}
}

// rows calls do with all lists of up to so many parts in all, of each kind that may be.
func rows(count int, do func(l []api.Doc)) {
	do(nil)
	for own := 1; own <= count; own++ {
		rows(own-1, func(below []api.Doc) {
			if size(below) != own-1 {
				return
			}
			for _, x := range parts(below) {
				rows(count-own, func(others []api.Doc) {
					do(append([]api.Doc{x}, others...))
				})
			}
		})
	}
}

// size is how many parts there are in l.
func size(l []api.Doc) int {
	count := 0
	for _, x := range l {
		count += 1 + size(x.L)
	}
	return count
}

// parts are those of each kind that have just l in them.
func parts(l []api.Doc) []api.Doc {
	list := []api.Doc{{Kind: api.DCat, L: l}, {Kind: api.DNest, N: 4, L: l}, {Kind: api.DGroup, L: l}, {Kind: api.DGroup, N: 1, L: l}}
	if len(l) == 0 {
		list = append(list, line, soft, hard, doc.Text(""), doc.Text("a"), doc.Text("éb"))
	}
	return list
}

// 16.1, 16.2: every document of up to four parts, and First of every list of these.
func TestSmall(t *testing.T) {
	seen := 0
	rows(4, func(l []api.Doc) {
		seen++
		d := api.Doc{Kind: api.DCat, L: l}
		want := anew(d)
		if got := asked(d); got != want {
			t.Fatalf("%s: %v, not %v", spell(d), got, want)
		}
		if got := First(l); got != want.first {
			t.Fatalf("First of %s: %d, not %d", spell(d), got, want.first)
		}
	})
	if seen < 40000 {
		t.Error(seen)
	}
}

// grown is a document of some parts, what they are by chance.
func grown(r *rand.Rand, deep int) api.Doc {
	d := api.Doc{Kind: []int{1, 1, 1, 1, 1, 2, 3, 4, 5, 5, 6, 6, 7, 7}[r.Intn(14)]}
	if d.Kind == api.DHard && r.Intn(8) > 0 {
		d.Kind = api.DText
	}
	if d.Kind == api.DText {
		d.Text = []string{"", "a", "bc", "é", "\xff", "def ghi"}[r.Intn(6)]
	}
	if d.Kind == api.DNest {
		d.N = r.Intn(1001)
	}
	if d.Kind == api.DGroup && r.Intn(16) == 0 {
		d.N = 1
	}
	for d.Kind >= api.DCat && deep > 0 && r.Intn(5) > 0 {
		d.L = append(d.L, grown(r, deep-1))
	}
	return d
}

// 16.1, 16.2: documents of all sorts; what is on one line is as wide as it is said to be.
func TestGrown(t *testing.T) {
	r := rand.New(rand.NewSource(16))
	ok, not := 0, 0
	for range 20000 {
		d := api.Doc{Kind: api.DCat, L: []api.Doc{grown(r, 6), grown(r, 6), grown(r, 6)}}
		hold(t, d)
		if got := First(d.L); got != First([]api.Doc{d}) {
			t.Fatalf("First of %s: %d", spell(d), got)
		}
		x := asked(d)
		if x.ok && cell.Width(x.text) != x.width || x.ok == doc.Forced(d) {
			t.Fatalf("%s: %v", spell(d), x)
		}
		if x.ok {
			ok++
		} else {
			not++
		}
	}
	if ok < 1000 || not < 1000 {
		t.Error(ok, not)
	}
}

// 16.2: nothing is looked at behind the first place where a line may end.
func TestStops(t *testing.T) {
	d := doc.Text("a")
	for range 60 {
		d = api.Doc{Kind: api.DCat, L: []api.Doc{d, d}}
	}
	for _, x := range []api.Doc{line, soft, hard} {
		if n := First([]api.Doc{doc.Text("ab"), x, d}); n != 2 {
			t.Error(n)
		}
		if n := First([]api.Doc{doc.Text("ab"), {Kind: api.DGroup, L: []api.Doc{doc.Text("c"), x, d}}, d}); n != 3 {
			t.Error(n)
		}
	}
	if text, ok := Flat(api.Doc{Kind: api.DCat, L: []api.Doc{hard, d}}); ok || text != "" {
		t.Error("Flat")
	}
}

// Rule 1: documents deeper than may be, and the widest; the stack of calls is kept small, so that one that grew with them would break.
func TestGreat(t *testing.T) {
	const deep = 300000
	defer debug.SetMaxStack(debug.SetMaxStack(1 << 20))
	for _, kind := range []int{0, api.DCat, api.DNest, api.DGroup} {
		for _, x := range []struct {
			last  api.Doc
			first int
		}{{doc.Text("é"), deep}, {line, deep - 1}, {soft, deep - 1}, {hard, deep - 1}} {
			d := x.last
			for range deep - 1 {
				d = api.Doc{Kind: kind, L: []api.Doc{doc.Text("a"), d}}
			}
			text, ok := Flat(d)
			wantText := strings.Repeat("a", deep-1) + map[int]string{api.DText: "é", api.DLine: " "}[x.last.Kind]
			width := cell.Width(wantText)
			if x.last.Kind == api.DHard {
				wantText = ""
			}
			if text != wantText || ok != (x.last.Kind != api.DHard) || Width(d) != width || First([]api.Doc{d}) != x.first {
				t.Errorf("kind %d: %d bytes, %v, %d, %d", kind, len(text), ok, Width(d), First([]api.Doc{d}))
			}
		}
	}
	wide := api.Doc{Kind: api.DCat, L: slices.Repeat([]api.Doc{doc.Text("abc"), line}, deep)}
	if text, ok := Flat(wide); text != strings.Repeat("abc ", deep) || !ok || Width(wide) != 4*deep || First(wide.L) != 3 || First(wide.L[1:]) != 0 {
		t.Error("the widest")
	}
}

// Rules 2 and 3: what is asked of is not changed and not kept, and is answered alike again.
func TestAgain(t *testing.T) {
	r := rand.New(rand.NewSource(2))
	for range 1000 {
		d := grown(r, 5)
		want := spell(d)
		first := asked(d)
		if asked(d) != first || spell(d) != want {
			t.Fatal(want)
		}
	}
	word := strings.Clone("abc")
	if text, _ := Flat(api.Doc{Kind: api.DText, Text: word}); unsafe.StringData(text) == unsafe.StringData(word) {
		t.Error("Flat answers what was handed in")
	}
}

// Rule 5: a nil list and an empty one are the same.
func TestEmpty(t *testing.T) {
	for _, kind := range numbers {
		if asked(api.Doc{Kind: kind, Text: "a"}) != asked(api.Doc{Kind: kind, Text: "a", L: make([]api.Doc, 0, 4)}) {
			t.Errorf("kind %d", kind)
		}
	}
}
