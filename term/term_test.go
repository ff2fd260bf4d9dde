package term_test

import (
	"math"
	"slices"
	"strings"
	"testing"

	"rubric/api"
	"rubric/term"
	"rubric/terms"
	"rubric/wild"
)

// Terms, written short.
var (
	name, elem, elems           = terms.Name, terms.Elem, terms.Elems
	anyOf, every, other, these  = terms.Any, terms.Every, terms.Other, terms.These
	of, seq, choice, all, empty = terms.Of, terms.Seq, terms.Choice, terms.All, terms.Empty
	times, deep, tell, same     = terms.Times, terms.Deep, terms.Tell, terms.Same
	roomy, sameRoom, spoil, hit = terms.Roomy, terms.SameRoom, terms.Spoil, terms.Hit
	rowsUpTo                    = terms.Rows
)

// names answers a name for each letter, those of great letters in the space `u`.
func names(text string) []api.Name {
	var out []api.Name
	for _, r := range text {
		if r >= 'A' && r <= 'Z' {
			out = append(out, api.Name{Space: "u", Local: strings.ToLower(string(r))})
		} else {
			out = append(out, name(string(r)))
		}
	}
	return out
}

// many answers n times the same term.
func many(n int, t term.Term) []term.Term { return slices.Repeat([]term.Term{t}, n) }

func TestP1501Numbers(t *testing.T) {
	if term.Elem != 1 || term.Any != 2 || term.Seq != 3 || term.Choice != 4 || term.All != 5 || term.Empty != 6 {
		t.Error("a kind's number is another one")
	}
}

// rightTerms are terms of each kind, with all that may be of it.
func rightTerms() []term.Term {
	a, b := elem("a"), elem("b")
	return []term.Term{
		a, elem("u:a"), elem("?"), elem(" "), elem("\xff"), times(0, 0, a), times(0, 1, a), times(0, -1, a), times(1000, 1000, a), times(1000, -1, a), times(0, 1000, a), times(3, 5, a),
		anyOf(every()), anyOf(other("")), anyOf(other("u")), anyOf(these()), anyOf(these("", "u")), times(0, 7, anyOf(every())),
		empty(), times(0, 0, empty()), times(1000, -1, empty()),
		seq(), times(0, -1, seq()), seq(a), seq(a, a), seq(a, seq(b, choice(), empty()), anyOf(every())), times(7, 1000, seq(a, b)),
		choice(), times(0, 0, choice()), choice(a, a), choice(a, choice(b, seq()), empty()), times(2, -1, choice(a, b)),
		all(), times(0, 1, all()), all(a), all(a, b), times(0, 1, all(times(0, 1, a), times(0, 0, b), elem("c"))), all(a, elem("u:a"), elem("v:a")),
		{Kind: term.Elem, Min: 1, Max: 1, Name: name("a"), Leaf: -7}, {Kind: term.Empty, Min: 1, Max: 1, Kids: []term.Term{}}, {Kind: term.Elem, Min: 1, Max: 1, Name: name("a"), Kids: []term.Term{}},
	}
}

func TestP1501CheckTakes(t *testing.T) {
	for _, x := range rightTerms() {
		if err := term.Check(x); err != api.OK {
			t.Errorf("%s: %v", tell(x), err)
		}
	}
}

// wrongTerms are those that have a number, a text, a kid that may not be.
func wrongTerms() []term.Term {
	a, b := elem("a"), elem("b")
	out := []term.Term{
		{}, {Kind: 7, Min: 1, Max: 1}, {Kind: -1, Min: 1, Max: 1}, {Kind: math.MaxInt, Min: 1, Max: 1}, of(0, a), of(7, a),
		elem(""), elem("u:"), {Kind: term.Elem, Min: 0, Max: 0},
		anyOf(wild.Wild{}), anyOf(wild.Wild{How: wild.Every}), anyOf(wild.Wild{How: wild.These, Spaces: []string{"b", "a"}, Process: 1}), anyOf(wild.Wild{How: wild.Other, Spaces: []string{"b"}, Process: 1}),
		of(term.Empty, a), of(term.Empty, empty()), {Kind: term.Elem, Min: 1, Max: 1, Name: name("a"), Kids: []term.Term{b}}, {Kind: term.Any, Min: 1, Max: 1, W: every(), Kids: []term.Term{b}},
		seq(all()), choice(all(a)), seq(a, seq(b, all(a))), all(all()), all(a, all(b)),
		times(0, 0, all(a)), times(1, 2, all(a)), times(0, 2, all()), times(0, -1, all(a)), times(1, -1, all(a)), times(2, 1, all(a)), times(2, 2, all(a)), times(-1, 1, all(a)),
		all(anyOf(every())), all(a, anyOf(every())), all(seq()), all(seq(a)), all(choice(a)), all(empty()), all(a, empty()),
		all(times(0, 2, a)), all(times(1, 2, a)), all(times(2, 2, a)), all(times(0, -1, a)), all(times(1, -1, a)), all(times(1, 0, a)), all(times(-1, 1, a)), all(b, times(0, -1, a)), all(elem("")),
		all(a, a), all(a, b, a), all(a, times(0, 0, a)), all(times(0, 0, a), times(0, 0, a)), all(elem("u:a"), b, elem("u:a")),
	}
	for _, l := range [][2]int{{-1, 1}, {-1, -1}, {1001, -1}, {1001, 1001}, {1, 0}, {2, 1}, {5, 4}, {1000, 999}, {0, 1001}, {1, 1001}, {0, -2}, {-2, -2}, {0, math.MinInt}, {math.MinInt, 0}, {math.MaxInt, -1}, {0, math.MaxInt}, {math.MaxInt, math.MaxInt}} {
		for _, x := range []term.Term{a, anyOf(every()), empty(), seq(a), choice(a), all(a)} {
			out = append(out, times(l[0], l[1], x))
		}
	}
	return out
}

func TestP1501CheckRefuses(t *testing.T) {
	for _, x := range wrongTerms() {
		// Wherever it stands, also where an All may be at the top.
		for i, y := range []term.Term{x, seq(x), choice(elem("a"), x), seq(elem("b"), times(0, 0, choice(x)), elem("c")), deep(63, term.Seq, x), all(elem("z"), x)} {
			want := api.ErrArg
			if i == 4 && len(x.Kids) > 0 {
				want = api.ErrMany
			}
			if err := term.Check(y); err != want {
				t.Errorf("%d: %s: %v", i, tell(x), err)
			}
		}
	}
}

func TestP1501CheckMany(t *testing.T) {
	a, wrong := elem("a"), elem("")
	for i, c := range []struct {
		t    term.Term
		want api.Errno
	}{
		{deep(62, term.Seq, a), api.OK}, {deep(63, term.Seq, a), api.OK}, {deep(64, term.Seq, a), api.ErrMany}, {deep(65, term.Choice, a), api.ErrMany},
		{deep(63, term.Choice, empty()), api.OK}, {deep(64, term.Choice, empty()), api.ErrMany},
		{seq(a, deep(62, term.Choice, a)), api.OK}, {seq(a, deep(63, term.Choice, a)), api.ErrMany}, {seq(deep(63, term.Choice, a), a), api.ErrMany},
		{seq(many(4094, a)...), api.OK}, {seq(many(4095, a)...), api.OK}, {seq(many(4096, a)...), api.ErrMany}, {choice(many(4095, empty())...), api.OK}, {choice(many(4096, empty())...), api.ErrMany},
		{seq(many(63, seq(many(64, a)...))...), api.OK}, {seq(append(many(62, seq(many(64, a)...)), many(65, a)...)...), api.OK}, {seq(append(many(62, seq(many(64, a)...)), many(66, a)...)...), api.ErrMany},
		{all(elems(4095)...), api.OK}, {all(elems(4096)...), api.ErrMany},
		// Too many goes ahead of what may not be.
		{deep(64, term.Seq, wrong), api.ErrMany}, {seq(append([]term.Term{wrong}, many(4095, a)...)...), api.ErrMany}, {seq(append([]term.Term{wrong}, many(4094, a)...)...), api.ErrArg},
		{seq(wrong, deep(63, term.Choice, a)), api.ErrMany}, {all(many(4096, a)...), api.ErrMany}, {all(many(4095, a)...), api.ErrArg}, {times(2, 1, deep(64, term.Seq, a)), api.ErrMany},
		// Kids of what may have none are terms too.
		{of(term.Elem, many(4096, a)...), api.ErrMany}, {of(term.Empty, deep(63, term.Seq, a)), api.ErrMany}, {of(term.Empty, deep(62, term.Seq, a)), api.ErrArg}, {of(9, many(4096, a)...), api.ErrMany},
	} {
		if err := term.Check(c.t); err != c.want {
			t.Errorf("%d: %v; want %v", i, err, c.want)
		}
	}
}

func TestP1501Number(t *testing.T) {
	a, b := elem("a"), elem("b")
	at := func(leaf int, t term.Term) term.Term { t.Leaf = leaf; return t }
	wide := seq(elems(4095)...)
	wideWant := seq(elems(4095)...)
	for i := range wideWant.Kids {
		wideWant.Kids[i].Leaf = i
	}
	for _, c := range []struct{ t, want term.Term }{
		{a, at(0, a)}, {at(7, a), at(0, a)}, {at(-1, anyOf(these("", "u"))), at(0, anyOf(these("", "u")))},
		{empty(), empty()}, {seq(), seq()}, {times(0, -1, choice(empty())), times(0, -1, choice(empty()))},
		{seq(a, a, b), seq(at(0, a), at(1, a), at(2, b))},
		{seq(at(2, a), at(1, a), at(0, b)), seq(at(0, a), at(1, a), at(2, b))},
		{all(a, times(0, 0, b), elem("c")), all(at(0, a), at(1, times(0, 0, b)), at(2, elem("c")))},
		{
			choice(seq(times(0, 0, a), empty(), anyOf(every())), times(2, 3, choice(b, seq(seq(a), b))), choice(), anyOf(other("u"))),
			choice(seq(at(0, times(0, 0, a)), empty(), at(1, anyOf(every()))), times(2, 3, choice(at(2, b), seq(seq(at(3, a)), at(4, b)))), choice(), at(5, anyOf(other("u")))),
		},
		{wide, wideWant}, {deep(63, term.Seq, at(3, a)), deep(63, term.Seq, at(0, a))},
	} {
		if got := term.Number(c.t); !same(got, c.want) {
			t.Errorf("%.80s: %.200s", tell(c.t), tell(got))
		}
		if got := term.Number(c.want); !same(got, c.want) {
			t.Errorf("numbered twice: %.80s", tell(c.t))
		}
	}
}

func TestP1501Leaves(t *testing.T) {
	a, b, x := elem("a"), elem("u:b"), times(0, 0, anyOf(these("", "u")))
	b.Leaf = 9
	for _, c := range []struct {
		t    term.Term
		want []term.Term
	}{
		{a, []term.Term{a}}, {b, []term.Term{b}}, {x, []term.Term{x}}, {empty(), nil}, {seq(), nil}, {choice(empty(), seq(choice())), nil},
		{seq(a, b, a), []term.Term{a, b, a}}, {all(b, a), []term.Term{b, a}},
		{times(0, -1, choice(seq(x, empty(), b), times(2, 3, choice(a, seq(seq(b), a))), choice(), x)), []term.Term{x, b, a, b, a, x}},
		{seq(elems(4095)...), elems(4095)}, {deep(63, term.Choice, b), []term.Term{b}},
	} {
		if got := term.Leaves(c.t); !slices.EqualFunc(got, c.want, same) {
			t.Errorf("%.80s: %.200s", tell(c.t), tell(seq(got...)))
		}
	}
}

// TestP1501NumberOnly: of terms made at random nothing but the leaves' numbers is
// another one; these are numbered from 0 on.
func TestP1501NumberOnly(t *testing.T) {
	d := newDice(15)
	for range 3000 {
		x := d.Top(1 + d.Throw(5))
		got := term.Number(x)
		leaves := term.Leaves(got)
		if len(leaves) != len(term.Leaves(x)) {
			t.Fatalf("%s: %d leaves", tell(x), len(leaves))
		}
		for i, leaf := range leaves {
			if leaf.Leaf != i {
				t.Fatalf("%s: leaf %d has the number %d", tell(x), i, leaf.Leaf)
			}
		}
		if !same(bare(got), bare(x)) {
			t.Fatalf("%s: %s", tell(x), tell(got))
		}
		if again := term.Number(got); !same(again, got) {
			t.Fatalf("%s: numbered twice", tell(x))
		}
	}
}

// bare answers a term whose leaves have no numbers.
func bare(t term.Term) term.Term {
	t.Leaf = 0
	t.Kids = slices.Clone(t.Kids)
	for i := range t.Kids {
		t.Kids[i] = bare(t.Kids[i])
	}
	return t
}

func TestP1502Hits(t *testing.T) {
	for _, c := range []struct {
		leaf    term.Term
		yes, no []string
	}{
		{elem("a"), []string{"a"}, []string{"b", "", "A", "aa", "u:a", ":", "u:", "a "}},
		{elem("u:a"), []string{"u:a"}, []string{"a", "u:b", "v:a", "u:", "uu:a"}},
		{times(0, 0, elem("a")), []string{"a"}, []string{"b"}},
		{anyOf(every()), []string{"a", "u:a", "?", "u:?", "", "u:"}, nil},
		{anyOf(other("u")), []string{"v:a", "uu:a"}, []string{"a", "u:a", "", "u:"}},
		{anyOf(other("")), []string{"v:a", "u:"}, []string{"a", ""}},
		{anyOf(these()), nil, []string{"a", "u:a", ""}},
		{anyOf(these("")), []string{"a", ""}, []string{"u:a"}},
		{anyOf(these("", "u", "w")), []string{"a", "u:a", "w:b"}, []string{"v:a"}},
		{times(0, 0, anyOf(every())), []string{"a"}, nil},
		{seq(elem("a")), nil, []string{"a"}}, {choice(elem("a")), nil, []string{"a"}}, {all(elem("a")), nil, []string{"a"}}, {empty(), nil, []string{"a", ""}},
	} {
		for _, n := range c.yes {
			if !term.Hits(c.leaf, name(n)) {
				t.Errorf("%s hits %q", tell(c.leaf), n)
			}
		}
		for _, n := range c.no {
			if term.Hits(c.leaf, name(n)) {
				t.Errorf("%s does not hit %q", tell(c.leaf), n)
			}
		}
	}
}
