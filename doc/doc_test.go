package doc

import (
	"math"
	"math/rand"
	"runtime/debug"
	"slices"
	"strconv"
	"strings"
	"testing"
	"unsafe"

	"galley/api"
)

// Those that hold nothing.
var (
	line = api.Doc{Kind: api.DLine}
	soft = api.Doc{Kind: api.DSoft}
	hard = api.Doc{Kind: api.DHard}
)

// numbers are those of kinds and of N that count, those beside them, and those that only look so when they are cut.
var numbers = []int{math.MinInt, math.MinInt32, -1001, -1000, -8, -7, -6, -2, -1, 0, 1, 2, 3, 4, 5, 6, 7, 8, 9, 255, 256, 999, 1000, 1001, 1 << 16, math.MaxInt32, 1<<32 + 1, 1<<32 + 6, math.MaxInt}

// spell is all of d as one text, another one for each document.
func spell(d api.Doc) string {
	s := "(" + strconv.Itoa(d.Kind) + " " + strconv.Itoa(d.N) + strconv.Quote(d.Text)
	for _, x := range d.L {
		s += spell(x)
	}
	return s + ")"
}

// deepCopy is d in memory of its own, all the way down.
func deepCopy(d api.Doc) api.Doc {
	d.L = slices.Clone(d.L)
	for k := range d.L {
		d.L[k] = deepCopy(d.L[k])
	}
	return d
}

// inside are d and all that is in it, to be changed in their places.
func inside(d *api.Doc) []*api.Doc {
	list := []*api.Doc{d}
	for k := range d.L {
		list = append(list, inside(&d.L[k])...)
	}
	return list
}

// told is what the calls answer of one document.
type told struct {
	may, forced bool
	count       int
}

// asked is what they answer of d.
func asked(d api.Doc) told {
	return told{May(d), Forced(d), Count(d)}
}

// anew is the chapter's words read anew, each part by those in it; of documents that are neither too deep nor of too many parts.
func anew(d api.Doc) told {
	x := told{may: d.Kind >= 1 && d.Kind <= 7, count: 1}
	if d.Text != "" && (d.Kind != 1 || strings.IndexByte(d.Text, 10) >= 0) {
		x.may = false
	}
	if len(d.L) > 0 && (d.Kind < 5 || d.Kind > 7) {
		x.may = false
	}
	switch d.Kind {
	case 6:
		x.may = x.may && 0 <= d.N && d.N < 1001
	case 7:
		x.may = x.may && (d.N == 0 || d.N == 1)
	default:
		x.may = x.may && d.N == 0
	}
	x.forced = d.Kind == 4 || d.Kind == 7 && d.N == 1
	for _, y := range d.L {
		below := anew(y)
		x.may = x.may && below.may
		x.forced = x.forced || below.forced
		x.count += below.count
	}
	return x
}

// hold holds what is answered of d against the chapter's words read anew.
func hold(t *testing.T, d api.Doc) {
	t.Helper()
	if got, want := asked(d), anew(d); got != want {
		t.Fatalf("%s: %v, not %v", spell(d), got, want)
	}
}

// shapes are all documents of so many parts, each a DCat.
func shapes(count int) []api.Doc {
	var list []api.Doc
	for _, l := range rows(count - 1) {
		list = append(list, api.Doc{Kind: api.DCat, L: l})
	}
	return list
}

// rows are all lists of documents of so many parts together.
func rows(count int) [][]api.Doc {
	if count == 0 {
		return [][]api.Doc{nil}
	}
	var list [][]api.Doc
	for first := 1; first <= count; first++ {
		for _, x := range shapes(first) {
			for _, others := range rows(count - first) {
				list = append(list, append([]api.Doc{x}, others...))
			}
		}
	}
	return list
}

// each calls do with every part of these kinds, numbers, texts and lists.
func each(do func(d api.Doc)) {
	for _, kind := range numbers {
		for _, n := range numbers {
			for _, text := range []string{"", "a", "\n", "a\nb", "\r", "é", "\xff", "\x00"} {
				for _, l := range [][]api.Doc{nil, {}, {line}, {{}}, {hard, soft}, {soft, {Kind: api.DGroup, N: 1}}} {
					do(api.Doc{Kind: kind, N: n, Text: text, L: l})
				}
			}
		}
	}
}

// 15.1 the makers: what they are given is all that is in what they make.
func TestMakers(t *testing.T) {
	for _, s := range []string{"", "a", "a b", "é𝄞", "\n", "a\nb", "\t\r\n", "\xff", "\x00"} {
		if got, want := Text(s), (api.Doc{Kind: 1, Text: s}); spell(got) != spell(want) {
			t.Errorf("Text(%q): %s", s, spell(got))
		}
	}
	wrong := api.Doc{Kind: 9, N: -1, Text: "\n", L: []api.Doc{{}}}
	for _, l := range [][]api.Doc{nil, {}, {line}, {hard}, {{}}, {wrong}, {line, soft}, {soft, line}, {line, line, line}, {{Kind: 5, L: []api.Doc{wrong, soft}}, {Kind: 7, N: 1}, hard, {Kind: 1, Text: "a"}}, make([]api.Doc, 1000)} {
		for _, x := range []struct {
			name string
			got  api.Doc
			want api.Doc
		}{
			{"Cat", Cat(l...), api.Doc{Kind: 5, L: l}},
			{"Group", Group(l...), api.Doc{Kind: 7, L: l}},
			{"Broken", Broken(l...), api.Doc{Kind: 7, N: 1, L: l}},
		} {
			if spell(x.got) != spell(x.want) {
				t.Errorf("%s of %d: %s, not %s", x.name, len(l), spell(x.got), spell(x.want))
			}
		}
		for _, n := range numbers {
			if got, want := Nest(n, l...), (api.Doc{Kind: 6, N: n, L: l}); spell(got) != spell(want) {
				t.Errorf("Nest(%d) of %d: %s, not %s", n, len(l), spell(got), spell(want))
			}
		}
	}
}

// 15.1, 15.2: the chapter's example, ordinary documents, the edges, and what may not be.
func TestTold(t *testing.T) {
	for _, x := range []struct {
		name string
		d    api.Doc
		want told
	}{
		{"the chapter's", Cat(Text("a")), told{true, false, 2}},
		{"nothing", api.Doc{}, told{false, false, 1}},
		{"a text", Text("a"), told{true, false, 1}},
		{"a text of no bytes", Text(""), told{true, false, 1}},
		{"a text that ends no line", Text("a\r\v\f\u0085\u2028\u010ab"), told{true, false, 1}},
		{"a text with the escape", Text(`a\nb`), told{true, false, 1}},
		{"a text that is none", Text("\xff\xe2\x82"), told{true, false, 1}},
		{"a byte 10", Text("\n"), told{false, false, 1}},
		{"a byte 10 ahead", Text("\na"), told{false, false, 1}},
		{"a byte 10 behind", Text("a\n"), told{false, false, 1}},
		{"a byte 10 far behind", Text(strings.Repeat("a", 100000) + "\n"), told{false, false, 1}},
		{"a line", line, told{true, false, 1}},
		{"nothing or a line", soft, told{true, false, 1}},
		{"a newline", hard, told{true, true, 1}},
		{"no parts", Cat(), told{true, false, 1}},
		{"no parts, nested", Nest(4), told{true, false, 1}},
		{"no parts, grouped", Group(), told{true, false, 1}},
		{"no parts, broken", Broken(), told{true, true, 1}},
		{"not moved", Nest(0, line), told{true, false, 2}},
		{"moved as far as may be", Nest(1000, line), told{true, false, 2}},
		{"moved too far", Nest(1001, line), told{false, false, 2}},
		{"moved to the left", Nest(-1, line), told{false, false, 2}},
		{"nests that move too far together", Nest(1000, Nest(1000, line)), told{true, false, 3}},
		{"a newline in a group", Group(Text("a"), hard), told{true, true, 3}},
		{"a newline far down", Cat(Text("a"), Nest(4, Group(Text("b"), Nest(4, Cat(hard))))), told{true, true, 8}},
		{"a broken group in one", Group(Cat(Broken(line))), told{true, true, 4}},
		{"a group in a broken one", Broken(Group(line)), told{true, true, 3}},
		{"a group that is twice broken", api.Doc{Kind: api.DGroup, N: 2}, told{false, false, 1}},
		{"a text that is broken", api.Doc{Kind: api.DText, N: 1, Text: "a"}, told{false, false, 1}},
		{"parts that are broken", api.Doc{Kind: api.DCat, N: 1}, told{false, false, 1}},
		{"a nest of 1", Nest(1), told{true, false, 1}},
		{"a newline with a text", api.Doc{Kind: api.DHard, Text: "a"}, told{false, true, 1}},
		{"a newline in a text", api.Doc{Kind: api.DText, L: []api.Doc{hard}}, told{false, true, 2}},
		{"a newline in what is no kind", api.Doc{L: []api.Doc{line, hard}}, told{false, true, 3}},
		{"a group with a text", api.Doc{Kind: api.DGroup, Text: "a", L: []api.Doc{line}}, told{false, false, 2}},
		{"what is no kind, far down", Cat(line, Nest(4, Group(line, Cat(api.Doc{})))), told{false, false, 7}},
		{"the last one has a byte 10", Cat(Text("a"), Cat(Text("b"), Text("c")), Text("\n")), told{false, false, 6}},
		{"a call on lines", Group(Text("f("), Nest(4, soft, Text("a,"), line, Text("b")), soft, Text(")")), told{true, false, 9}},
	} {
		t.Run(x.name, func(t *testing.T) {
			if got := asked(x.d); got != x.want {
				t.Errorf("%s: %v", spell(x.d), got)
			}
			hold(t, x.d)
		})
	}
}

// 15.1, 15.2, rule 7: every part of these, alone, and in what may be, far down and last.
func TestAlone(t *testing.T) {
	each(func(d api.Doc) {
		hold(t, d)
		within := api.Doc{Kind: api.DCat, L: []api.Doc{line, {Kind: api.DNest, N: 4, L: []api.Doc{soft, {Kind: api.DGroup, L: []api.Doc{d}}}}}}
		hold(t, within)
		if May(within) != May(d) || Forced(within) != Forced(d) || Count(within) != 5+Count(d) {
			t.Fatal(spell(d))
		}
	})
}

// 15.1, 15.2: every document of up to seven parts, with each of its parts changed alone.
func TestPlaces(t *testing.T) {
	changes := []struct {
		change      func(d *api.Doc)
		may, forced bool
	}{
		{func(d *api.Doc) {}, true, false},
		{func(d *api.Doc) { d.Kind = api.DGroup }, true, false},
		{func(d *api.Doc) { d.Kind, d.N = api.DNest, 1 }, true, false},
		{func(d *api.Doc) { d.Kind, d.N = api.DGroup, 1 }, true, true},
		{func(d *api.Doc) { d.L = append(slices.Clone(d.L), hard) }, true, true},
		{func(d *api.Doc) { d.L = append([]api.Doc{hard}, d.L...) }, true, true},
		{func(d *api.Doc) { d.L = append(slices.Clone(d.L), api.Doc{}) }, false, false},
		{func(d *api.Doc) { d.L = append([]api.Doc{Text("\n")}, d.L...) }, false, false},
		{func(d *api.Doc) { d.Kind = 8 }, false, false},
		{func(d *api.Doc) { d.Kind, d.N = api.DGroup, 2 }, false, false},
		{func(d *api.Doc) { d.Kind, d.N = api.DNest, 1001 }, false, false},
		{func(d *api.Doc) { d.N = 1 }, false, false},
		{func(d *api.Doc) { d.Text = "a" }, false, false},
	}
	for count := 1; count <= 7; count++ {
		for _, d := range shapes(count) {
			for k := range inside(&d) {
				for m, x := range changes {
					b := deepCopy(d)
					x.change(inside(&b)[k])
					if May(b) != x.may || Forced(b) != x.forced {
						t.Fatalf("change %d of part %d of %s: %v", m, k, spell(d), asked(b))
					}
					hold(t, b)
				}
			}
			if Count(d) != count {
				t.Fatalf("%s: %d parts", spell(d), Count(d))
			}
		}
	}
}

// grown is a document of some parts, what they are by chance; few of them may not be.
func grown(r *rand.Rand, deep int) api.Doc {
	texts := []string{"", "a", "bc", "é", "\xff"}
	d := api.Doc{Kind: 1 + r.Intn(7)}
	if d.Kind == api.DHard && r.Intn(2) == 0 {
		d.Kind = api.DSoft
	}
	if d.Kind == api.DText {
		d.Text = texts[r.Intn(len(texts))]
	}
	if d.Kind == api.DNest {
		d.N = r.Intn(1001)
	}
	if d.Kind == api.DGroup && r.Intn(8) == 0 {
		d.N = 1
	}
	for d.Kind >= api.DCat && deep > 0 && r.Intn(4) > 0 {
		d.L = append(d.L, grown(r, deep-1))
	}
	switch r.Intn(400) {
	case 0:
		d.N++
	case 1:
		d.Text += "\n"
	case 2:
		d.L = append(d.L, api.Doc{})
	case 3:
		d.Kind = numbers[r.Intn(len(numbers))]
	}
	return d
}

// 15.1, 15.2: documents of all sorts; some are all that is asked for, some are not.
func TestGrown(t *testing.T) {
	r := rand.New(rand.NewSource(15))
	seen := map[told]int{}
	for range 20000 {
		d := grown(r, 6)
		hold(t, d)
		x := asked(d)
		x.count = 0
		seen[x]++
	}
	if len(seen) != 4 {
		t.Error(seen)
	}
}

// chain is so many parts of that kind, each in the one above and behind others there, the last one of which is d.
func chain(deep, kind int, d api.Doc, others ...api.Doc) api.Doc {
	for range deep - 1 {
		d = api.Doc{Kind: kind, L: append(slices.Clone(others), d)}
	}
	return d
}

// 15.1 May: at most 200,000 deep.
func TestDeep(t *testing.T) {
	defer debug.SetMaxStack(debug.SetMaxStack(1 << 20))
	for _, kind := range []int{api.DCat, api.DNest, api.DGroup} {
		for _, last := range []api.Doc{Text("a"), Broken()} {
			for _, others := range [][]api.Doc{nil, {line}} {
				for _, deep := range []int{1, 2, 199999, 200000, 200001} {
					d := chain(deep, kind, last, others...)
					if May(d) != (deep <= 200000) {
						t.Errorf("%d of the kind %d: not %v", deep, kind, deep <= 200000)
					}
					if x := Count(d); x != deep+len(others)*(deep-1) {
						t.Errorf("%d of the kind %d: %d parts", deep, kind, x)
					}
					if Forced(d) != Forced(last) {
						t.Errorf("%d of the kind %d: Forced", deep, kind)
					}
				}
			}
		}
	}
	for _, x := range []api.Doc{{}, Text("\n"), Nest(1001)} {
		if May(chain(200000, api.DGroup, x)) {
			t.Error(spell(x))
		}
	}
	edge := chain(199999, api.DCat, line)
	if !May(Cat(edge, edge, line)) || May(Cat(line, line, Cat(edge))) || May(Cat(Cat(edge), line)) {
		t.Error("which one is deep")
	}
}

// 15.1 May: at most 2,000,000 parts; 15.2 Count.
func TestMany(t *testing.T) {
	const most = 2000000
	many := make([]api.Doc, most)
	for k := range many {
		many[k] = line
	}
	cat := func(l ...api.Doc) api.Doc { return api.Doc{Kind: api.DCat, L: slices.Clone(l)} }
	group := api.Doc{Kind: api.DGroup, L: many[:1000]}
	groups := slices.Repeat([]api.Doc{group}, 1998) // 1,999,998 parts
	for _, x := range []struct {
		name  string
		d     api.Doc
		count int
		may   bool
	}{
		{"one fewer", cat(many[2:]...), most - 1, true},
		{"as many as may be", cat(many[1:]...), most, true},
		{"one more", cat(many...), most + 1, false},
		{"in groups", cat(append(groups, line)...), most, true},
		{"in groups, one more", cat(append(groups, line, line)...), most + 1, false},
		{"in groups, one more deep down", cat(append(groups, Cat(line))...), most + 1, false},
		{"far more", cat(Cat(many...), Cat(many...)), 2*most + 3, false},
	} {
		t.Run(x.name, func(t *testing.T) {
			if n := Count(x.d); n != x.count || May(x.d) != x.may || Forced(x.d) {
				t.Error(n, May(x.d), Forced(x.d))
			}
			x.d.L[len(x.d.L)-1] = api.Doc{Kind: api.DText, Text: "\n"}
			if May(x.d) {
				t.Error("the last one may not be")
			}
			x.d.L[len(x.d.L)-1] = hard
			if !Forced(x.d) {
				t.Error("not forced")
			}
		})
	}
}

// 15.1 May: it ends where there are too many parts, however many.
func TestTooMany(t *testing.T) {
	d := Text("a")
	for range 60 {
		d = api.Doc{Kind: api.DCat, L: []api.Doc{d, d}}
	}
	nest := api.Doc{Kind: api.DNest, N: 4, L: []api.Doc{line, d}}
	if May(d) || May(nest) {
		t.Error("2^60 texts may be")
	}
	if x := (api.Doc{Kind: api.DCat, L: []api.Doc{hard, d}}); !Forced(x) || May(x) {
		t.Error("a newline ahead")
	}
}

// Rule 1: documents deeper than may be; the stack of calls is kept small, so that one that grew with them would break.
func TestGreat(t *testing.T) {
	const deep = 1000000
	defer debug.SetMaxStack(debug.SetMaxStack(1 << 20))
	for _, kind := range []int{0, api.DText, api.DCat} {
		for _, last := range []api.Doc{soft, hard} {
			d := chain(deep, kind, last)
			if May(d) || Count(d) != deep || Forced(d) != Forced(last) {
				t.Errorf("kind %d: %v", kind, asked(d))
			}
		}
	}
}

// 15.1 the makers: what is made from the inside out is as it is said, at each step.
func TestInsideOut(t *testing.T) {
	for _, x := range []struct {
		name   string
		step   func(d api.Doc) api.Doc
		parts  int
		forced bool
	}{
		{"Cat", func(d api.Doc) api.Doc { return Cat(d) }, 1, false},
		{"Nest", func(d api.Doc) api.Doc { return Nest(4, d) }, 1, false},
		{"Group", func(d api.Doc) api.Doc { return Group(d) }, 1, false},
		{"Broken", func(d api.Doc) api.Doc { return Broken(d) }, 1, true},
		{"a row", func(d api.Doc) api.Doc { return Group(d, Nest(4, Text(" +"), line, Text("b"))) }, 5, false},
		{"a row to the right", func(d api.Doc) api.Doc { return Group(Text("b"), Nest(4, Text(" ++"), line, d)) }, 5, false},
	} {
		t.Run(x.name, func(t *testing.T) {
			d := Text("a")
			for k := range 1000 {
				d = x.step(d)
				if !May(d) || Forced(d) != x.forced || Count(d) != x.parts*(k+1)+1 {
					t.Fatal(k, asked(d))
				}
			}
		})
	}
}

// makers are all that take lists.
var makers = []struct {
	name string
	make func(l ...api.Doc) api.Doc
}{
	{"Cat", Cat},
	{"Nest", func(l ...api.Doc) api.Doc { return Nest(4, l...) }},
	{"Group", Group},
	{"Broken", Broken},
}

// memory is where the texts and lists of d, and of all that is in it, begin.
func memory(d *api.Doc) []unsafe.Pointer {
	var list []unsafe.Pointer
	for _, x := range inside(d) {
		if x.Text != "" {
			list = append(list, unsafe.Pointer(unsafe.StringData(x.Text)))
		}
		if len(x.L) > 0 {
			list = append(list, unsafe.Pointer(&x.L[0]))
		}
	}
	return list
}

// Rule 2: what is handed in is not changed and not kept, all the way down, and no two lists of an answer are one.
func TestOwn(t *testing.T) {
	word := strings.Clone("abc")
	if unsafe.StringData(Text(word).Text) == unsafe.StringData(word) {
		t.Error("Text keeps its argument")
	}
	for _, x := range makers {
		t.Run(x.name, func(t *testing.T) {
			deep := Cat(Text("b"), Group(Text("c"), Nest(4, Text("d"), line)))
			handed := api.Doc{L: append(make([]api.Doc, 0, 8), Text("a"), deepCopy(deep), deep, deep)}
			before := spell(handed)
			d := x.make(handed.L...)
			want := spell(d)
			theirs, seen := memory(&handed), map[unsafe.Pointer]bool{}
			for _, at := range memory(&d) {
				if seen[at] || slices.Contains(theirs, at) {
					t.Error("the same memory twice")
				}
				seen[at] = true
			}
			clear(d.L[len(d.L):cap(d.L)])
			if spell(handed) != before || spell(api.Doc{L: handed.L[:8]}) != spell(api.Doc{L: append(slices.Clone(handed.L), make([]api.Doc, 4)...)}) {
				t.Error("what is handed in is changed")
			}
			for _, y := range inside(&handed)[1:] {
				y.Kind, y.Text = -1, "y"
			}
			if spell(d) != want {
				t.Errorf("a change of what is handed in is one of the answer: %s, not %s", spell(d), want)
			}
		})
	}
}

// Rule 2, rule 7 of LANGUAGE.md: what is written into an answer is written into nothing else, however many parts there are and however they stand.
func TestOwnGreat(t *testing.T) {
	for _, n := range []int{1, 2, 3, 255, 256, 257, 300, 600} {
		for name, d := range map[string]api.Doc{
			"wide":  {Kind: api.DCat, L: slices.Repeat([]api.Doc{Text("a")}, n)},
			"deep":  chain(n, api.DNest, Text("a")),
			"a row": chain(n, api.DGroup, Text("a"), Text("b"), line),
			"lists": {Kind: api.DGroup, L: slices.Repeat([]api.Doc{Cat(Text("a"), Cat(), soft)}, n)},
		} {
			for _, x := range makers {
				handed := api.Doc{L: append(make([]api.Doc, 0, 8), d, d)}
				y, before := x.make(handed.L...), spell(d)
				if spell(api.Doc{L: y.L}) != spell(handed) {
					t.Fatalf("%s of %d, %s: not the same", x.name, n, name)
				}
				if at := alike(t, &y, &handed); at != "" {
					t.Fatalf("%s of %d, %s: %s", x.name, n, name, at)
				}
				for _, part := range inside(&y.L[1]) {
					*part = api.Doc{}
				}
				if spell(d) != before || spell(y.L[0]) != before {
					t.Fatalf("%s of %d, %s: a change of one part of the answer is one of another", x.name, n, name)
				}
			}
		}
	}
}

// alike tells of memory that two lists or texts of d share, or one of d and one of handed; "" if there is none.
func alike(t *testing.T, d, handed *api.Doc) string {
	t.Helper()
	theirs, seen := map[unsafe.Pointer]bool{}, map[unsafe.Pointer]bool{}
	for _, at := range memory(handed) {
		theirs[at] = true
	}
	for _, at := range memory(d) {
		if theirs[at] {
			return "memory of what was handed in"
		}
		if seen[at] {
			return "the same memory twice"
		}
		seen[at] = true
	}
	return ""
}

// Rule 2: what is appended to a list of an answer, an empty one too, is in nothing else.
func TestAppend(t *testing.T) {
	for _, x := range makers {
		room := make([]api.Doc, 4)
		handed := []api.Doc{Cat(line, line), {Kind: api.DCat, L: room[:0]}, {Kind: api.DCat, L: room[:1]}, Cat(soft, Group(line)), Text("a")}
		for _, l := range [][]api.Doc{handed, handed[:0], room[1:1]} {
			d := x.make(l...)
			want := spell(d)
			for _, part := range inside(&d) {
				_ = append(part.L, hard)
				_ = append(part.L[:len(part.L):len(part.L)], hard, hard)
			}
			if spell(d) != want {
				t.Errorf("%s: %s, not %s", x.name, spell(d), want)
			}
		}
		if spell(api.Doc{L: room}) != spell(api.Doc{L: make([]api.Doc, 4)}) || handed[0].Kind != api.DCat {
			t.Errorf("%s: what is appended is in what was handed in", x.name)
		}
	}
}

// Rules 1 and 2: the makers of what is deeper than calls can go; what they are given stays, and what they answer.
func TestOwnDeep(t *testing.T) {
	defer debug.SetMaxStack(debug.SetMaxStack(1 << 20))
	for _, deep := range []int{199999, 200000, 300000} {
		for _, x := range makers {
			handed := chain(deep, api.DCat, Text("a"), line)
			d := x.make(handed)
			if n := Count(d); n != 2*deep || May(d) != (deep < 200000) {
				t.Fatalf("%s: %d deep: %d parts", x.name, deep, n)
			}
			theirs, ours := &handed, &d.L[0]
			for len(ours.L) > 0 {
				if &ours.L[0] == &theirs.L[0] {
					t.Fatalf("%s: %d deep: the same list", x.name, deep)
				}
				theirs, ours = &theirs.L[1], &ours.L[1]
				ours.N = 1
			}
			if !May(handed) != (deep > 200000) {
				t.Errorf("%s: %d deep: what was handed in is changed", x.name, deep)
			}
		}
	}
}

// Rules 2 and 3: what is asked of is not changed, and is answered alike again.
func TestAgain(t *testing.T) {
	r := rand.New(rand.NewSource(2))
	for range 1000 {
		d := grown(r, 5)
		want := spell(d)
		first := asked(d)
		if asked(d) != first || spell(d) != want {
			t.Fatal(want)
		}
	}
}

// Rule 5: a nil list and an empty one are the same.
func TestEmpty(t *testing.T) {
	for _, kind := range numbers {
		none, empty := api.Doc{Kind: kind}, api.Doc{Kind: kind, L: make([]api.Doc, 0, 4)}
		if asked(none) != asked(empty) || asked(Cat(none)) != asked(Cat(empty)) {
			t.Errorf("kind %d", kind)
		}
	}
	for _, x := range makers {
		if a, b := x.make(), x.make([]api.Doc{}...); spell(a) != spell(b) || len(a.L) != 0 || len(b.L) != 0 {
			t.Error(x.name)
		}
	}
}
