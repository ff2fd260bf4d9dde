package wild_test

import (
	"slices"
	"strings"
	"testing"

	"rubric/api"
	"rubric/wild"
)

func every(process int) wild.Wild { return wild.Wild{How: wild.Every, Process: process} }

func other(not string, process int) wild.Wild {
	return wild.Wild{How: wild.Other, Not: not, Process: process}
}

func these(process int, spaces ...string) wild.Wild {
	return wild.Wild{How: wild.These, Spaces: spaces, Process: process}
}

// equal tells whether a and b have the same fields; no list is an empty one.
func equal(a, b wild.Wild) bool {
	return a.How == b.How && a.Not == b.Not && a.Process == b.Process && slices.Equal(a.Spaces, b.Spaces)
}

func TestP1401Numbers(t *testing.T) {
	if wild.Every != 1 || wild.Other != 2 || wild.These != 3 || wild.Strict != 1 || wild.Lax != 2 || wild.Skip != 3 {
		t.Error("a kind's number is another one")
	}
}

func TestP1401Parse(t *testing.T) {
	for _, c := range []struct {
		namespace, target string
		want              wild.Wild
	}{
		{"", "t", every(wild.Strict)},
		{" \t\r\n ", "t", every(wild.Strict)},
		{"##any", "t", every(wild.Strict)},
		{"\n ##any\t", "t", every(wild.Strict)},
		{"##other", "t", other("t", wild.Strict)},
		{" ##other\r", "t", other("t", wild.Strict)},
		{"##other", "", other("", wild.Strict)},
		{"##other", "##any", other("##any", wild.Strict)},
		{"##targetNamespace", "t", these(wild.Strict, "t")},
		{"##targetNamespace", "", these(wild.Strict, "")},
		{"##targetNamespace", "a b", these(wild.Strict, "a b")},
		{"##targetNamespace", "##x", these(wild.Strict, "##x")},
		{"##local", "t", these(wild.Strict, "")},
		{"##local", "", these(wild.Strict, "")},
		{"##local ##targetNamespace", "t", these(wild.Strict, "", "t")},
		{"##targetNamespace ##local", "", these(wild.Strict, "")},
		{"##targetNamespace ##targetNamespace", "t", these(wild.Strict, "t")},
		{"##local\t##local", "t", these(wild.Strict, "")},
		{"a", "t", these(wild.Strict, "a")},
		{"t", "t", these(wild.Strict, "t")},
		{"b a b", "t", these(wild.Strict, "a", "b")},
		{"\tb\n\na\r\r", "t", these(wild.Strict, "a", "b")},
		{"z t ##targetNamespace a ##local", "t", these(wild.Strict, "", "a", "t", "z")},
		{"aa a B b A", "t", these(wild.Strict, "A", "B", "a", "aa", "b")},
		{"é z \U0001F600 \uFFFD", "t", these(wild.Strict, "z", "é", "\uFFFD", "\U0001F600")},
		{"http://www.w3.org/1999/xhtml urn:x", "t", these(wild.Strict, "http://www.w3.org/1999/xhtml", "urn:x")},
		// Others are taken as they are: just ## at the front is kept for the words that are known.
		{"# #any any a##b #", "t", these(wild.Strict, "#", "#any", "a##b", "any")},
		{"other local targetNamespace", "t", these(wild.Strict, "local", "other", "targetNamespace")},
		{"\u00A0##any", "t", these(wild.Strict, "\u00A0##any")},
		{"\xff a\x00", "t", these(wild.Strict, "a\x00", "\xff")},
	} {
		w, err := wild.Parse(c.namespace, c.target, "")
		if err != api.OK || !equal(w, c.want) || !wild.Right(w) {
			t.Errorf("%q, %q: %+v, %v; want %+v", c.namespace, c.target, w, err, c.want)
		}
	}
}

func TestP1401ParseProcess(t *testing.T) {
	for _, namespace := range []string{"", "##other", "b a"} {
		for text, want := range map[string]int{"": wild.Strict, "strict": wild.Strict, "lax": wild.Lax, "skip": wild.Skip} {
			w, err := wild.Parse(namespace, "t", text)
			if err != api.OK || w.Process != want || !wild.Right(w) {
				t.Errorf("%q, %q: %+v, %v", namespace, text, w, err)
			}
		}
	}
}

func TestP1401ParseErrors(t *testing.T) {
	for _, c := range [][2]string{
		{"##", ""}, {"##x", ""}, {"###any", ""}, {"##Any", ""}, {"##ANY", ""}, {"##anyx", ""}, {"##an", ""},
		{"##Other", ""}, {"##others", ""}, {"##Local", ""}, {"##locals", ""}, {"##targetnamespace", ""}, {"##targetNamespaces", ""},
		{"##any ##any", ""}, {"##any a", ""}, {"a ##any", ""}, {"##other a", ""}, {"a ##other", ""}, {"##other ##other", ""},
		{"##other ##local", ""}, {"##any ##other", ""}, {"##local ##any", ""}, {"##targetNamespace ##other", ""},
		{"a b ##x", ""}, {"##x a b", ""}, {"a ## b", ""}, {"##local ##targetNamespace ##", ""}, {"##\u00A0", ""},
		{"", "x"}, {"##any", "Strict"}, {"##any", "STRICT"}, {"##other", "stric"}, {"a", "stricts"}, {"a b", "LAX"}, {"", "skip."},
		{"", " "}, {"", " strict"}, {"##any", "lax "}, {"a", "\tskip\n"}, {"a", "lax skip"}, {"a", "1"}, {"a", "\xff"},
		{"##x", "x"}, {"##any a", "lax"},
	} {
		if w, err := wild.Parse(c[0], "t", c[1]); err != api.ErrForm || !equal(w, wild.Wild{}) {
			t.Errorf("%q: %+v, %v; want ErrForm", c, w, err)
		}
	}
}

// TestP1401ParseEveryRow: of every row of up to three of some words, each with some
// blanks beside it.
func TestP1401ParseEveryRow(t *testing.T) {
	words := []string{"##any", "##other", "##targetNamespace", "##local", "##x", "a", "t", "#"}
	stands := map[string]string{"##targetNamespace": "t", "##local": "", "a": "a", "t": "t", "#": "#"}
	check := func(row []string) {
		want, right := these(wild.Lax), true
		for _, word := range row {
			space, known := stands[word]
			right = right && known
			want.Spaces = append(want.Spaces, space)
		}
		slices.Sort(want.Spaces)
		want.Spaces = slices.Compact(want.Spaces)
		switch {
		case len(row) == 0 || len(row) == 1 && row[0] == "##any":
			want, right = every(wild.Lax), true
		case len(row) == 1 && row[0] == "##other":
			want, right = other("t", wild.Lax), true
		}
		for _, text := range []string{strings.Join(row, " "), "\r\n" + strings.Join(row, "\t \n") + " "} {
			w, err := wild.Parse(text, "t", "lax")
			if right && (err != api.OK || !equal(w, want)) || !right && (err != api.ErrForm || !equal(w, wild.Wild{})) {
				t.Errorf("%q: %+v, %v; want %+v, %v", text, w, err, want, right)
			}
		}
	}
	check(nil)
	for _, x := range words {
		check([]string{x})
		for _, y := range words {
			check([]string{x, y})
			for _, z := range words {
				check([]string{x, y, z})
			}
		}
	}
}

func TestP1401Right(t *testing.T) {
	for _, w := range []wild.Wild{
		every(wild.Strict), every(wild.Lax), every(wild.Skip), {How: wild.Every, Spaces: []string{}, Process: wild.Skip},
		other("", wild.Strict), other("a", wild.Lax), other("##any", wild.Skip), {How: wild.Other, Spaces: []string{}, Process: wild.Strict},
		these(wild.Strict), {How: wild.These, Process: wild.Lax}, these(wild.Lax, ""), these(wild.Skip, "a"), these(wild.Strict, "", "a"),
		these(wild.Strict, "a", "aa", "b"), these(wild.Strict, "A", "a"), these(wild.Strict, "z", "é", "\uFFFD", "\U0001F600"), these(wild.Strict, "##x", "a b"),
	} {
		if !wild.Right(w) {
			t.Errorf("%+v is Right", w)
		}
	}
	list := []string{"a"}
	for _, w := range []wild.Wild{
		{}, {Process: wild.Strict}, {How: 4, Process: wild.Strict}, {How: -1, Process: wild.Strict}, {How: 1 << 40, Process: wild.Strict},
		every(0), every(4), every(-1), every(1<<40 + 1), other("a", 0), other("a", 4), these(0, "a"), these(4, "a"), these(-3),
		{How: wild.Every, Not: "x", Process: wild.Strict}, {How: wild.Every, Spaces: list, Process: wild.Strict}, {How: wild.Every, Spaces: []string{""}, Process: wild.Strict},
		{How: wild.Other, Spaces: list, Process: wild.Strict}, {How: wild.Other, Not: "a", Spaces: list, Process: wild.Strict}, {How: wild.Other, Spaces: []string{""}, Process: wild.Strict},
		{How: wild.These, Not: "a", Process: wild.Strict}, {How: wild.These, Not: "b", Spaces: list, Process: wild.Strict},
		these(wild.Strict, "b", "a"), these(wild.Strict, "a", "a"), these(wild.Strict, "", ""), these(wild.Strict, "a", ""), these(wild.Strict, "", "a", "a"),
		these(wild.Strict, "a", "b", "a"), these(wild.Strict, "a", "c", "b", "d"), these(wild.Strict, "a", "A"), these(wild.Strict, "aa", "a"),
		these(wild.Strict, "\U0001F600", "\uFFFD"),
	} {
		if wild.Right(w) {
			t.Errorf("%+v is not Right", w)
		}
	}
}

func TestP1402Allows(t *testing.T) {
	for _, c := range []struct {
		w       wild.Wild
		yes, no []string
	}{
		{every(wild.Strict), []string{"", "a", "t", "a b", "##any", "\xff"}, nil},
		{other("t", wild.Strict), []string{"a", "T", "tt", " t", "t ", " ", "##other"}, []string{"", "t"}},
		{other("", wild.Lax), []string{"a", "t", " ", "\x00"}, []string{""}},
		{these(wild.Skip), nil, []string{"", "a", " "}},
		{these(wild.Skip, ""), []string{""}, []string{"a", " "}},
		{these(wild.Strict, "a"), []string{"a"}, []string{"", "A", "aa", "b", " a"}},
		{these(wild.Strict, "", "a", "c", "e"), []string{"", "a", "c", "e"}, []string{"b", "d", "f", "aa", "\x00"}},
	} {
		for _, space := range c.yes {
			if !wild.Allows(c.w, space) {
				t.Errorf("%+v allows %q", c.w, space)
			}
		}
		for _, space := range c.no {
			if wild.Allows(c.w, space) {
				t.Errorf("%+v does not allow %q", c.w, space)
			}
		}
	}
}

func TestP1402Sub(t *testing.T) {
	for _, c := range []struct {
		a, b wild.Wild
		want bool
	}{
		{every(wild.Strict), every(wild.Lax), true},
		{every(wild.Strict), other("", wild.Strict), false},
		{every(wild.Strict), these(wild.Strict, "", "a"), false},
		{other("a", wild.Strict), every(wild.Skip), true},
		{other("a", wild.Skip), other("a", wild.Strict), true},
		{other("a", wild.Strict), other("b", wild.Strict), false},
		{other("a", wild.Strict), other("", wild.Strict), true},
		{other("", wild.Strict), other("a", wild.Strict), false},
		{other("", wild.Strict), other("", wild.Lax), true},
		{other("a", wild.Strict), these(wild.Strict, "b", "c"), false},
		{these(wild.Strict), these(wild.Strict), true},
		{these(wild.Strict), other("a", wild.Strict), true},
		{these(wild.Strict, "a"), these(wild.Strict), false},
		{these(wild.Lax, "", "b"), these(wild.Strict, "", "a", "b"), true},
		{these(wild.Strict, "", "a", "b"), these(wild.Strict, "", "b"), false},
		{these(wild.Strict, "", "b"), every(wild.Strict), true},
		{these(wild.Strict, "b", "c"), other("a", wild.Strict), true},
		{these(wild.Strict, "a", "b"), other("a", wild.Strict), false},
		{these(wild.Strict, "", "b"), other("a", wild.Strict), false},
		{these(wild.Strict, "", "b"), other("", wild.Strict), false},
		{these(wild.Strict, "a", "b"), other("", wild.Strict), true},
	} {
		if got := wild.Sub(c.a, c.b); got != c.want {
			t.Errorf("Sub %+v, %+v: %v", c.a, c.b, got)
		}
	}
}

// A pair is two wildcards and what a call should answer of them; the zero one, where
// no wildcard says it.
type pair struct{ a, b, want wild.Wild }

// Process is a's in what follows, whatever b's is.
func TestP1402Both(t *testing.T) {
	for _, c := range []pair{
		{every(wild.Lax), every(wild.Skip), every(wild.Lax)},
		{every(wild.Lax), other("a", wild.Skip), other("a", wild.Lax)},
		{other("a", wild.Skip), every(wild.Lax), other("a", wild.Skip)},
		{every(wild.Skip), these(wild.Lax, "", "a"), these(wild.Skip, "", "a")},
		{these(wild.Lax, "", "a"), every(wild.Strict), these(wild.Lax, "", "a")},
		{other("a", wild.Lax), other("a", wild.Strict), other("a", wild.Lax)},
		{other("a", wild.Lax), other("", wild.Strict), other("a", wild.Lax)},
		{other("", wild.Strict), other("a", wild.Lax), other("a", wild.Strict)},
		{other("", wild.Strict), other("", wild.Lax), other("", wild.Strict)},
		{other("a", wild.Lax), other("b", wild.Lax), wild.Wild{}},
		{other("b", wild.Skip), other("a", wild.Lax), wild.Wild{}},
		{other("a", wild.Lax), these(wild.Strict, "", "a", "b"), these(wild.Lax, "b")},
		{these(wild.Strict, "", "a", "b"), other("a", wild.Lax), these(wild.Strict, "b")},
		{these(wild.Strict, "", "a"), other("a", wild.Lax), these(wild.Strict)},
		{these(wild.Strict, "", "a"), other("", wild.Lax), these(wild.Strict, "a")},
		{these(wild.Strict, "", "a", "c"), these(wild.Lax, "", "b", "c"), these(wild.Strict, "", "c")},
		{these(wild.Skip, "a"), these(wild.Lax, "b"), these(wild.Skip)},
		{these(wild.Skip), every(wild.Lax), these(wild.Skip)},
	} {
		if w, is := wild.Both(c.a, c.b); is != (c.want.How != 0) || !equal(w, c.want) {
			t.Errorf("Both %+v, %+v: %+v, %v; want %+v", c.a, c.b, w, is, c.want)
		}
	}
}

func TestP1402Union(t *testing.T) {
	for _, c := range []pair{
		{every(wild.Lax), every(wild.Skip), every(wild.Lax)},
		{every(wild.Lax), other("a", wild.Skip), every(wild.Lax)},
		{these(wild.Skip, "a"), every(wild.Lax), every(wild.Skip)},
		{other("a", wild.Lax), other("a", wild.Skip), other("a", wild.Lax)},
		{other("a", wild.Lax), other("b", wild.Skip), other("", wild.Lax)},
		{other("a", wild.Lax), other("", wild.Skip), other("", wild.Lax)},
		{other("", wild.Skip), other("a", wild.Lax), other("", wild.Skip)},
		{other("", wild.Skip), other("", wild.Lax), other("", wild.Skip)},
		{other("a", wild.Lax), these(wild.Strict), other("a", wild.Lax)},
		{other("a", wild.Lax), these(wild.Strict, "b"), other("a", wild.Lax)},
		{other("a", wild.Lax), these(wild.Strict, "a"), other("", wild.Lax)},
		{other("a", wild.Lax), these(wild.Strict, "a", "b"), other("", wild.Lax)},
		{other("a", wild.Lax), these(wild.Strict, "", "a"), every(wild.Lax)},
		{other("a", wild.Lax), these(wild.Strict, "", "a", "b"), every(wild.Lax)},
		{other("a", wild.Lax), these(wild.Strict, ""), wild.Wild{}},
		{these(wild.Strict, "", "b"), other("a", wild.Lax), wild.Wild{}},
		{other("", wild.Lax), these(wild.Strict, ""), every(wild.Lax)},
		{other("", wild.Lax), these(wild.Strict, "", "a"), every(wild.Lax)},
		{these(wild.Strict, "a"), other("", wild.Lax), other("", wild.Strict)},
		{these(wild.Strict, "", "c"), these(wild.Lax, "", "a", "b"), these(wild.Strict, "", "a", "b", "c")},
		{these(wild.Skip), these(wild.Lax), these(wild.Skip)},
		{these(wild.Skip), these(wild.Lax, "b"), these(wild.Skip, "b")},
	} {
		if w, is := wild.Union(c.a, c.b); is != (c.want.How != 0) || !equal(w, c.want) {
			t.Errorf("Union %+v, %+v: %+v, %v; want %+v", c.a, c.b, w, is, c.want)
		}
	}
}

func TestP1402Same(t *testing.T) {
	for _, c := range []struct {
		a, b wild.Wild
		want bool
	}{
		{every(wild.Lax), every(wild.Lax), true},
		{every(wild.Lax), every(wild.Skip), false},
		{every(wild.Lax), wild.Wild{How: wild.Every, Spaces: []string{}, Process: wild.Lax}, true},
		{every(wild.Lax), other("", wild.Lax), false},
		{every(wild.Lax), these(wild.Lax), false},
		{other("a", wild.Lax), other("a", wild.Lax), true},
		{other("a", wild.Lax), other("a", wild.Strict), false},
		{other("a", wild.Lax), other("b", wild.Lax), false},
		{other("a", wild.Lax), other("", wild.Lax), false},
		{other("", wild.Lax), other("", wild.Lax), true},
		{other("", wild.Lax), these(wild.Lax), false},
		{other("a", wild.Lax), these(wild.Lax, "a"), false},
		{these(wild.Skip), these(wild.Skip), true},
		{these(wild.Skip), wild.Wild{How: wild.These, Spaces: []string{}, Process: wild.Skip}, true},
		{these(wild.Skip), these(wild.Skip, ""), false},
		{these(wild.Skip, "a", "b"), these(wild.Skip, "a", "b"), true},
		{these(wild.Skip, "a", "b"), these(wild.Lax, "a", "b"), false},
		{these(wild.Skip, "a", "b"), these(wild.Skip, "a"), false},
		{these(wild.Skip, "a", "b"), these(wild.Skip, "a", "c"), false},
	} {
		if wild.Same(c.a, c.b) != c.want || wild.Same(c.b, c.a) != c.want {
			t.Errorf("Same %+v, %+v: want %v", c.a, c.b, c.want)
		}
	}
}
