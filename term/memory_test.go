package term_test

import (
	"math"
	"slices"
	"sync"
	"testing"

	"rubric/api"
	"rubric/term"
	"rubric/terms"
	"rubric/wild"
)

func memoryTerms() []term.Term {
	out := rightTerms()
	out = append(out, seq(anyOf(these("", "u")), anyOf(these("u", "v")), choice(anyOf(these("u")), elem("a"))), times(0, -1, choice(elem("a"), elem("a"), elem("a"))))
	d := newDice(5)
	for range 200 {
		out = append(out, d.Top(4))
	}
	return out
}

// answers is what all calls answer of a term and a row of names.
type answers struct {
	err                       api.Errno
	leaves                    []term.Term
	numbered                  term.Term
	names                     []api.Name
	hits, word, empties, none bool
	paths, noPaths            [][]int
	least                     int
}

func ask(t term.Term, w []api.Name) answers {
	leaves := term.Leaves(t)
	return answers{
		term.Check(t), leaves, term.Number(t), term.Names(leaves...), term.Hits(t, w[0]),
		term.Word(t, w), term.Empties(t), term.Word(t, nil), term.Paths(t, w), term.Paths(t, nil), term.Least(t),
	}
}

func equal(a, b answers) bool {
	if !slices.EqualFunc(a.leaves, b.leaves, same) || !same(a.numbered, b.numbered) || !slices.Equal(a.names, b.names) || !slices.EqualFunc(a.paths, b.paths, slices.Equal[[]int]) || !slices.EqualFunc(a.noPaths, b.noPaths, slices.Equal[[]int]) {
		return false
	}
	return a.err == b.err && a.hits == b.hits && a.word == b.word && a.empties == b.empties && a.none == b.none && a.least == b.least
}

// wreck writes all over what was answered.
func (a answers) wreck() {
	for _, leaf := range a.leaves[:cap(a.leaves)] {
		spoil(leaf)
	}
	spoil(a.numbered)
	for i := range a.names[:cap(a.names)] {
		a.names[:cap(a.names)][i] = name("spoilt")
	}
	for _, l := range [][][]int{a.paths, a.noPaths} {
		for _, row := range l[:cap(l)] {
			for i := range row[:cap(row)] {
				row[:cap(row)][i] = -9
			}
		}
	}
}

// TestP2NothingIsChangedOrShared: no call turns a term, a row, or their spare room;
// to write all over the answers turns neither these nor what is answered next.
func TestP2NothingIsChangedOrShared(t *testing.T) {
	for _, x := range memoryTerms() {
		given, want := roomy(x), roomy(x)
		room := names("aAbcxx")
		w := room[:2]
		first, second := ask(given, w), ask(x, names("aA"))
		if !equal(first, second) {
			t.Fatalf("%s: spare room is looked at", tell(x))
		}
		first.wreck()
		if !sameRoom(given, want) || !slices.Equal(room, names("aAbcxx")) {
			t.Fatalf("%s was changed", tell(x))
		}
		if !equal(ask(given, w), second) {
			t.Fatalf("%s: another answer", tell(x))
		}
	}
}

// TestP2HandedInIsNotKept: what was handed in may be written over behind a call.
func TestP2HandedInIsNotKept(t *testing.T) {
	for _, x := range memoryTerms() {
		given := roomy(x)
		w := names("aA")
		got := ask(given, w)
		spoil(given)
		w[0], w[1] = name("spoilt"), name("spoilt")
		if !equal(got, ask(x, names("aA"))) {
			t.Fatalf("%s is kept", tell(x))
		}
	}
}

// TestP2ListsShareNothing: no two lists of one answer share any; nor where those of
// what was handed in do.
func TestP2ListsShareNothing(t *testing.T) {
	one := []string{"", "u"}
	kids := []term.Term{elem("a"), anyOf(wild.Wild{How: wild.These, Spaces: one, Process: 2}), anyOf(wild.Wild{How: wild.These, Spaces: one, Process: 1})}
	x := seq(of(term.Seq, kids...), of(term.Choice, kids...), times(0, -1, seq(kids...)))
	for i := range x.Kids {
		x.Kids[i].Kids = kids
	}
	for _, kid := range []int{0, 1, 2} {
		n := term.Number(x)
		want := term.Number(x)
		spoil(n.Kids[kid])
		for other := range n.Kids {
			if other != kid && !same(n.Kids[other], want.Kids[other]) {
				t.Errorf("Number: %d and %d share a list", kid, other)
			}
		}
	}
	for i := range term.Leaves(x) {
		l, want := term.Leaves(x), term.Leaves(x)
		spoil(l[i])
		for j := range l {
			if j != i && !same(l[j], want[j]) {
				t.Errorf("Leaves: %d and %d share a list", i, j)
			}
		}
	}
	for _, y := range []term.Term{times(0, -1, choice(elem("a"), elem("a"))), seq(times(0, -1, elem("a")), times(0, -1, elem("a"))), choice(many(70, seq(elem("a"), elem("a"), elem("a")))...)} {
		l, want := term.Paths(y, names("aaa")), term.Paths(y, names("aaa"))
		for i := range l {
			full := l[i][:cap(l[i])]
			for k := range full {
				full[k] = -9
			}
			for j := i + 1; j < len(l); j++ {
				if !slices.Equal(l[j], want[j]) {
					t.Fatalf("%s: rows %d and %d share memory", tell(y), i, j)
				}
			}
		}
	}
	all := term.Paths(times(0, 1, all(elem("a"))), names("a"))
	all[0][0] = -9
	if again := term.Paths(times(0, 1, of(term.All, elem("a"))), names("a")); again[0][0] != 0 {
		t.Error("an All's row is kept")
	}
}

func TestP2NoListIsAnEmptyOne(t *testing.T) {
	a := elem("a")
	a.Kids, a.W.Spaces = []term.Term{}, []string{}
	x, y := seq(a, empty()), seq(elem("a"), of(term.Empty, []term.Term{}...))
	if !equal(ask(x, names("a")), ask(y, names("a"))) || term.Check(x) != api.OK {
		t.Error("an empty list is another one than none")
	}
	if !term.Word(empty(), []api.Name{}) || len(term.Paths(empty(), []api.Name{})) != 1 || len(term.Names([]term.Term{}...)) != 2 {
		t.Error("an empty row is another one than none")
	}
}

func TestP3TheSameAgain(t *testing.T) {
	var wait sync.WaitGroup
	terms := memoryTerms()
	want := make([]answers, len(terms))
	for i, x := range terms {
		want[i] = ask(x, names("aA"))
	}
	for range 4 {
		wait.Go(func() {
			for i, x := range terms {
				if !equal(ask(x, names("aA")), want[i]) {
					t.Errorf("%s: another answer", tell(x))
				}
			}
		})
	}
	wait.Wait()
}

// askAll asks all calls of terms that may not be: they need but end.
func askAll(x term.Term) {
	w := names("aAb")
	ask(x, w)
	term.Names(x, x)
	for _, k := range x.Kids[:min(len(x.Kids), 3)] {
		term.Hits(k, w[0])
	}
}

func TestP8WrongTerms(t *testing.T) {
	for _, x := range wrongTerms() {
		for _, y := range []term.Term{x, seq(x), choice(elem("a"), x), all(x, x), deep(70, term.Choice, x), times(math.MaxInt, math.MaxInt, seq(x)), times(0, math.MaxInt, seq(x, elem("a"))), times(math.MinInt, math.MinInt, x)} {
			given := roomy(y)
			askAll(given)
			if !sameRoom(given, roomy(y)) {
				t.Errorf("%s was changed", tell(y))
			}
		}
	}
}

// TestP8TooMuch: terms that are wider or deeper than may be, or within themselves.
func TestP8TooMuch(t *testing.T) {
	for i, x := range terms.TooMuch() {
		if err := term.Check(x); err != api.ErrMany {
			t.Errorf("%d: %v", i, err)
		}
		askAll(x)
	}
}

// TestP1ItEnds: terms that Check takes, of more words than can ever be.
func TestP1ItEnds(t *testing.T) {
	a := elem("a")
	as := func(n int) []api.Name { return slices.Repeat(names("a"), n) }
	for i, b := range [][2]int{{1000, 1000}, {0, 1000}, {1, 1000}, {2, 3}, {0, -1}, {1, -1}, {1000, -1}, {1, 2}, {7, 11}} {
		for j, kid := range []term.Term{a, choice(a, empty()), choice(a, a, seq(a, a)), seq(times(0, 1, a), times(0, 1, a)), choice()} {
			x := kid
			for range 60 {
				x = times(b[0], b[1], of([]int{term.Seq, term.Choice}[j%2], x))
			}
			if err := term.Check(x); err != api.OK {
				t.Fatalf("%d, %d: %v", i, j, err)
			}
			short := term.Word(x, as(12))
			if got := len(term.Paths(x, as(12))) > 0; got != short && got {
				t.Errorf("%d, %d: %v", i, j, got)
			}
			term.Word(x, as(300))
			term.Least(x)
		}
	}
}
