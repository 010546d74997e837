package split

import (
	"math"
	"slices"
	"strings"
	"testing"

	"galley/api"
	"galley/gap"
	"galley/scan"
)

// tokens are those of s.
func tokens(t *testing.T, s string) []api.Token {
	t.Helper()
	l, e := scan.Scan(s)
	if e != api.OK {
		t.Fatalf("Scan(%q): %d", s, e)
	}
	return l
}

// part is an item, by its bytes.
type part struct {
	s           string
	note, blank bool
}

// 8.1 Split, Bytes: ordinary texts and the edges.
func TestSplit(t *testing.T) {
	for _, x := range []struct {
		name, s string
		want    []part
	}{
		{"no tokens", "", nil},
		{"blanks alone", " \n\n\t\r\n", nil},
		{"a form", "f() -> ok.", []part{{"f() -> ok.", false, false}}},
		{"the chapter's", "%a\nf() -> ok. %b", []part{{"%a", true, false}, {"f() -> ok.", false, false}, {"%b", true, false}}},
		{"two in a line", "a. b.", []part{{"a.", false, false}, {"b.", false, false}}},
		{"a newline between", "a.\nb.", []part{{"a.", false, false}, {"b.", false, false}}},
		{"a blank line between", "a.\n\nb.", []part{{"a.", false, false}, {"b.", false, true}}},
		{"blank lines between", "a.\n\n\n\n\nb.", []part{{"a.", false, false}, {"b.", false, true}}},
		{"a blank line of blanks", "a. \r\n\t \r\n b.", []part{{"a.", false, false}, {"b.", false, true}}},
		{"13 alone", "a.\r\rb.", []part{{"a.", false, false}, {"b.", false, false}}},
		{"a blank line ahead of the first one", "\n\n\na.", []part{{"a.", false, false}}},
		{"a blank line within a form", "a,\n\n\nb. c.", []part{{"a,\n\n\nb.", false, false}, {"c.", false, false}}},
		{"a blank line ahead of the point", "a\n\n. b.", []part{{"a\n\n.", false, false}, {"b.", false, false}}},
		{"blanks around", "  a  .  ", []part{{"a  .", false, false}}},
		{"a point alone", ".", []part{{".", false, false}}},
		{"points alone", ". . .\n\n.", []part{{".", false, false}, {".", false, false}, {".", false, false}, {".", false, true}}},
		{"a point ahead of a form", ". a.", []part{{".", false, false}, {"a.", false, false}}},
		{"points that end nothing", "a.b #r.c 1.5 '. ' \". \" $.. d.", []part{{"a.b #r.c 1.5 '. ' \". \" $..", false, false}, {"d.", false, false}}},
		{"no point", "a, b", []part{{"a, b", false, false}}},
		{"no point behind the last one", "a. b, c", []part{{"a.", false, false}, {"b, c", false, false}}},
		{"comments alone", "%a\n%b\n\n%c", []part{{"%a", true, false}, {"%b", true, false}, {"%c", true, true}}},
		{"a comment whose bytes are a form's", "% f() -> ok.", []part{{"% f() -> ok.", true, false}}},
		{"a comment with a point", "a %b.\n. %c.", []part{{"a %b.\n.", false, false}, {"%c.", true, false}}},
		{"comments in a form", "f(%a\n) -> %b\n %c\n\n ok %d\n.", []part{{"f(%a\n) -> %b\n %c\n\n ok %d\n.", false, false}}},
		{"behind a point in its line", "a. %b\nc.", []part{{"a.", false, false}, {"%b", true, false}, {"c.", false, false}}},
		{"between forms", "a.\n\n%b\nc.\n\n%d\n\ne.", []part{{"a.", false, false}, {"%b", true, true}, {"c.", false, false}, {"%d", true, true}, {"e.", false, true}}},
		{"no point, comments behind it", "a, b %c\n\n%d", []part{{"a, b", false, false}, {"%c", true, false}, {"%d", true, true}}},
		{"no point, comments in it and behind it", "%a\nb %c\n\n d %e\n%f", []part{{"%a", true, false}, {"b %c\n\n d", false, false}, {"%e", true, false}, {"%f", true, false}}},
		{"no point behind another form, comments around", "a. %b\n\nc %d\ne\n\n%f", []part{{"a.", false, false}, {"%b", true, false}, {"c %d\ne", false, true}, {"%f", true, true}}},
		{"long code points", "'é€' -> \"𝄞\". %é\n$𝄞.", []part{{"'é€' -> \"𝄞\".", false, false}, {"%é", true, false}, {"$𝄞.", false, false}}},
		{"a comment whose blanks are none of it", "%a \t\r\n%b  ", []part{{"%a", true, false}, {"%b", true, false}}},
		{"what closes nothing", ") end. ( [", []part{{") end.", false, false}, {"( [", false, false}}},
	} {
		t.Run(x.name, func(t *testing.T) {
			l := tokens(t, x.s)
			var got []part
			for _, y := range Split(x.s, l) {
				got = append(got, part{Bytes(x.s, l, y), y.Note, y.Blank})
			}
			if !slices.Equal(got, x.want) {
				t.Errorf("Split(%q): %v", x.s, got)
			}
		})
	}
}

// 8.1 Split: From and To are numbers of tokens.
func TestSplitNumbers(t *testing.T) {
	s := "%a\n\nf() -> %b\n ok. %c\n\n-x. y %d\n%e"
	want := []api.Item{
		{From: 0, To: 1, Note: true},
		{From: 1, To: 8, Blank: true},
		{From: 8, To: 9, Note: true},
		{From: 9, To: 12, Blank: true},
		{From: 12, To: 13},
		{From: 13, To: 14, Note: true},
		{From: 14, To: 15, Note: true},
	}
	if got := Split(s, tokens(t, s)); !slices.Equal(got, want) {
		t.Error(got)
	}
	if got := Split(s, nil); len(got) != 0 {
		t.Error(got)
	}
	if got := Split("", []api.Token{}); len(got) != 0 {
		t.Error(got)
	}
}

// last is the number of the last token of l from from on, below to, that is so; -1 of none.
func last(l []api.Token, from, to int, so func(api.Token) bool) int {
	for k := to - 1; k >= from; k-- {
		if so(l[k]) {
			return k
		}
	}
	return -1
}

// anew is the chapter's words read anew: the forms are told first, each by the points, then the comments that none of them has, and then all of them are put in their order.
func anew(s string, l []api.Token) []api.Item {
	code := func(t api.Token) bool { return t.Kind != api.TComment }
	point := func(t api.Token) bool { return t.Kind == api.TDot }
	owned := make([]bool, len(l))
	var items []api.Item
	for behind := len(l); behind >= 0; {
		// The form that ends last below behind, and the point of the one ahead of it.
		to := last(l, 0, behind, code)
		if to < 0 {
			break
		}
		behind = last(l, 0, to, point) + 1
		from := behind
		for !code(l[from]) {
			from++
		}
		for k := from; k <= to; k++ {
			owned[k] = true
		}
		items = append(items, api.Item{From: from, To: to + 1, Blank: gap.Blank(s, l, from)})
	}
	for k, x := range owned {
		if !x {
			items = append(items, api.Item{From: k, To: k + 1, Note: true, Blank: gap.Blank(s, l, k)})
		}
	}
	slices.SortFunc(items, func(a, b api.Item) int { return a.From - b.From })
	return items
}

// partition holds 8.2: the items have each token once, in order.
func partition(t *testing.T, l []api.Token, items []api.Item) {
	t.Helper()
	at := 0
	for _, x := range items {
		if x.From != at || x.To <= at {
			t.Fatalf("%v: %v, not from %d on", l, x, at)
		}
		at = x.To
	}
	if at != len(l) {
		t.Fatalf("%v: %d of them", l, at)
	}
}

// extend calls hold with each list of up to most of the parts.
func extend[T any](head, parts []T, most int, hold func(l []T)) {
	hold(head)
	if most == 0 {
		return
	}
	for _, p := range parts {
		extend(append(slices.Clone(head), p), parts, most-1, hold)
	}
}

// 8.1, 8.2: every text of up to seven parts, against the chapter's words read anew.
func TestSplitAll(t *testing.T) {
	extend(nil, []string{"a ", ". ", "%c\n", "\n", "("}, 7, func(parts []string) {
		s := strings.Join(parts, "")
		l := tokens(t, s)
		got := Split(s, l)
		if want := anew(s, l); !slices.Equal(got, want) {
			t.Fatalf("Split(%q): %v, not %v", s, got, want)
		}
		partition(t, l, got)
		for _, x := range got {
			if want := s[l[x.From].At:gap.End(l[x.To-1])]; Bytes(s, l, x) != want {
				t.Fatalf("Bytes(%q, %v): %q", s, x, Bytes(s, l, x))
			}
		}
	})
}

// 8.1 Split: a comment is one by its kind, a point too; all other kinds, numbers that are none among them, are parts of forms.
func TestSplitKinds(t *testing.T) {
	kinds := []int{
		api.TAtom, api.TVar, api.TInt, api.TFloat, api.TChar, api.TString, api.TMacro, api.TWord, api.TSign, api.TDot, api.TComment,
		0, -1, 12, api.TDot + 256, api.TComment + 256, math.MinInt, math.MaxInt,
	}
	for _, text := range []string{"a", ".", "%", "", "%a.", "end", "\xff"} {
		for _, kind := range kinds {
			x := api.Token{Kind: kind, Text: text}
			l := []api.Token{x, {Kind: api.TAtom, Text: "a", At: 9}, {Kind: api.TAtom, Text: "b", At: 99}}
			want := []api.Item{{From: 0, To: 3}}
			if kind == api.TDot || kind == api.TComment {
				want = []api.Item{{From: 0, To: 1, Note: kind == api.TComment}, {From: 1, To: 3}}
			}
			if got := Split("", l); !slices.Equal(got, want) {
				t.Errorf("%v: %v", x, got)
			}
		}
	}
}

// 8.1 Split: Blank is that of 7.1, which tokens that do not stand in s have not.
func TestSplitPlaces(t *testing.T) {
	s := "a.\n\nb.\n\n%c"
	l := tokens(t, s)
	for _, x := range []struct {
		s     string
		blank bool
	}{{s, true}, {"", false}, {"c;\n\nd;\n\n%d", false}, {"a. \nb. \n%c", false}} {
		want := []api.Item{{From: 0, To: 2}, {From: 2, To: 4, Blank: x.blank}, {From: 4, To: 5, Note: true, Blank: x.blank}}
		if got := Split(x.s, l); !slices.Equal(got, want) {
			t.Errorf("Split(%q): %v", x.s, got)
		}
	}
	for _, at := range []int{-1, math.MinInt, math.MaxInt, 5, len(s)} {
		m := slices.Clone(l)
		m[2].At = at
		want := []api.Item{{From: 0, To: 2}, {From: 2, To: 4}, {From: 4, To: 5, Note: true, Blank: true}}
		if got := Split(s, m); !slices.Equal(got, want) {
			t.Errorf("at %d: %v", at, got)
		}
	}
	// What stands behind the list's end in its array is none of it.
	if got := Split(s, l[:3]); !slices.Equal(got, []api.Item{{From: 0, To: 2}, {From: 2, To: 3, Blank: true}}) {
		t.Error(got)
	}
	if got := Bytes(s, l[:3], api.Item{From: 2, To: 4}); got != "" {
		t.Errorf("%q", got)
	}
}

// 8.1 Bytes: "" of numbers that are not those of tokens, From below To; else the bytes, whatever Split says of them.
func TestBytesNumbers(t *testing.T) {
	s := " f( %é\n). b ->\n'é'. "
	l := tokens(t, s)
	numbers := []int{math.MinInt, math.MinInt + 1, math.MinInt32, -2, -1, len(l) + 1, len(l) + 2, math.MaxInt32, math.MaxInt - 1, math.MaxInt}
	for k := range len(l) + 1 {
		numbers = append(numbers, k)
	}
	for _, from := range numbers {
		for _, to := range numbers {
			want := ""
			if from >= 0 && from < to && to <= len(l) {
				last := l[to-1]
				want = s[l[from].At : last.At+len(last.Text)]
			}
			for flags := range 4 {
				x := api.Item{From: from, To: to, Note: flags&1 != 0, Blank: flags&2 != 0}
				if got := Bytes(s, l, x); got != want {
					t.Errorf("Bytes of %v: %q, not %q", x, got, want)
				}
			}
			if got := Bytes(s, nil, api.Item{From: from, To: to}); got != "" {
				t.Errorf("Bytes of no tokens, %d, %d: %q", from, to, got)
			}
		}
	}
}

// Rule 1, 8.1 Bytes: tokens that are not those of s; it never panics, and places that s has not are no bytes.
func TestBytesPlaces(t *testing.T) {
	for _, x := range []struct {
		name, s string
		l       []api.Token
		want    string
	}{
		{"as they stand", "a b", []api.Token{{Text: "a"}, {Text: "b", At: 2}}, "a b"},
		{"the text's end", "a b", []api.Token{{Text: "b", At: 2}}, "b"},
		{"another text's bytes", "c d", []api.Token{{Text: "a"}, {Text: "b", At: 2}}, "c d"},
		{"no text", "", []api.Token{{Text: "a"}}, ""},
		{"beyond the end", "a b", []api.Token{{Text: "a"}, {Text: "bc", At: 2}}, ""},
		{"all beyond the end", "a b", []api.Token{{Text: "a", At: 4}}, ""},
		{"no bytes, at the end", "a b", []api.Token{{At: 3}}, ""},
		{"no bytes, beyond the end", "a b", []api.Token{{At: 4}}, ""},
		{"below 0", "a b", []api.Token{{Text: "a", At: -1}, {Text: "b", At: 2}}, ""},
		{"all below 0", "a b", []api.Token{{Text: "a", At: -3}}, ""},
		{"the other way round", "a b", []api.Token{{Text: "b", At: 2}, {Text: "a"}}, ""},
		{"the smallest number", "a b", []api.Token{{Text: "a", At: math.MinInt}, {Text: "b", At: 2}}, ""},
		{"the smallest number behind", "a b", []api.Token{{Text: "a"}, {Text: "b", At: math.MinInt}}, ""},
		{"the greatest number", "a b", []api.Token{{Text: "a"}, {Text: "b", At: math.MaxInt}}, ""},
		{"the greatest number, no bytes", "a b", []api.Token{{Text: "a"}, {At: math.MaxInt}}, ""},
		{"the greatest number ahead", "a b", []api.Token{{Text: "a", At: math.MaxInt}, {Text: "b", At: 2}}, ""},
		{"the greatest number alone", "a b", []api.Token{{Text: "a", At: math.MaxInt}}, ""},
	} {
		t.Run(x.name, func(t *testing.T) {
			if got := Bytes(x.s, x.l, api.Item{To: len(x.l)}); got != x.want {
				t.Errorf("%q", got)
			}
			Split(x.s, x.l)
		})
	}
}

// T1, 8.2: texts as long as the formatter takes: one form, a form or a note at each second byte, and a last form with notes behind it.
func TestSplitLong(t *testing.T) {
	const n = api.MaxBytes / 2
	for _, x := range []struct {
		name, s string
		items   int
	}{
		{"one form", strings.Repeat("a ", n-1) + "a.", 1},
		{"no point", strings.Repeat("a ", n), 1},
		{"points", strings.Repeat(". ", n), n},
		{"comments", strings.Repeat("%\n", n), n},
		{"no point, comments behind it", "a " + strings.Repeat("%\n", n-1), n},
		{"comments within a form", "a " + strings.Repeat("%\n", n-2) + "b.", 1},
		{"forms and comments", strings.Repeat("a. %\n\n", api.MaxBytes/7), api.MaxBytes / 7 * 2},
	} {
		t.Run(x.name, func(t *testing.T) {
			l := tokens(t, x.s)
			items := Split(x.s, l)
			if len(items) != x.items {
				t.Fatal(len(items))
			}
			partition(t, l, items)
		})
	}
}

// Rules 2 and 3: what is handed in stays as it is, the same call gives the same answer, and each answer is new.
func TestOwn(t *testing.T) {
	s := "%a\nf() -> %b\n ok.\n\n%c\nd %e"
	l := tokens(t, s)
	kept := slices.Clone(l)
	one, two := Split(s, l), Split(s, l)
	if !slices.Equal(one, two) {
		t.Error(one, two)
	}
	clear(one)
	if !slices.Equal(two, Split(s, l)) {
		t.Error(two)
	}
	for _, x := range two {
		if Bytes(s, l, x) != Bytes(s, l, x) {
			t.Error(x)
		}
	}
	if !slices.Equal(l, kept) {
		t.Error(l)
	}
}
