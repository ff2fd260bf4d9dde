package auto_test

import (
	"math"
	"slices"
	"sync"
	"testing"

	"rubric/api"
	"rubric/auto"
	"rubric/glush"
	"rubric/term"
	"rubric/terms"
	"rubric/wild"
)

func spoilNumbers(l []int) {
	for i := range l[:cap(l)] {
		l[:cap(l)][i] = 0
	}
}

func spoilExpr(e glush.Expr) {
	for i := range e.Kids[:cap(e.Kids)] {
		spoilExpr(e.Kids[:cap(e.Kids)][i])
		e.Kids[:cap(e.Kids)][i] = sym(77)
	}
}

// answer is what a model answers of a state that one of its names led to.
type answer struct {
	s      auto.State
	leaf   int
	ends   bool
	next   []term.Term
	last   term.Term
	isLast bool
}

// ask answers what a model answers on the way over a row of names. Each state is
// handed in by a copy with spare room that is written over at once, so no way goes
// by what it was handed.
func ask(m *auto.Model, w []api.Name) []answer {
	s, leaf := m.Begin(), -1
	var out []answer
	for i := range len(w) + 1 {
		given := copied(s)
		one := answer{s: s, leaf: leaf, ends: m.Accepts(given), next: m.Next(given)}
		one.last, one.isLast = m.Leaf(leaf)
		out = append(out, one)
		if i < len(w) {
			s, leaf = m.Step(given, w[i])
		}
		spoilNumbers(given.Pos)
		spoilNumbers(given.Seen)
	}
	return out
}

// copied answers a state with spare room.
func copied(s auto.State) auto.State {
	s.Pos, s.Seen = slices.Grow(slices.Clone(s.Pos), 3), slices.Grow(slices.Clone(s.Seen), 3)
	return s
}

func sameAnswers(a, b []answer) bool {
	return slices.EqualFunc(a, b, func(x, y answer) bool {
		return sameState(x.s, y.s) && x.leaf == y.leaf && x.ends == y.ends && sameTerms(x.next, y.next) && same(x.last, y.last) && x.isLast == y.isLast
	})
}

// wreck writes all over what was answered.
func wreck(l []answer) {
	for _, one := range l {
		spoilNumbers(one.s.Pos)
		spoilNumbers(one.s.Seen)
		spoil(one.last)
		for _, leaf := range one.next[:cap(one.next)] {
			spoil(leaf)
		}
		for i := range one.next[:cap(one.next)] {
			one.next[:cap(one.next)][i] = elem("spoilt")
		}
	}
}

// asked is a term that has a model, and a row of names that begins a word.
type asked struct {
	t term.Term
	w []api.Name
}

func memoryTerms() []asked {
	spaces := anyOf(these("", "u"))
	out := []asked{
		{seq(times(0, -1, spaces), anyOf(these("v", "w")), elem("v:a")), names("a u:a a v:b v:a")},
		{times(0, -1, choice(times(1, 2, elem("v:a")), spaces)), names("v:a v:a u:b v:a a v:c")},
		{all(elem("a"), maybe(elem("b")), maybe(elem("c"))), names("c a b b")},
		{pairs(0, 9), names("a a b a b a a a")},
	}
	d := newDice(41)
	for range 400 {
		x, m := d.model(3)
		l, s := term.Names(term.Leaves(x)...), m.Begin()
		var w []api.Name
		for range d.Throw(6) {
			w = append(w, d.likely(m, s, l))
			s, _ = m.Step(s, w[len(w)-1])
		}
		out = append(out, asked{x, w})
	}
	return out
}

// TestP2NothingIsChangedOrShared: no call turns a term, a row, a state, or their
// spare room; to write all over the answers turns neither these nor what is answered
// next.
func TestP2NothingIsChangedOrShared(t *testing.T) {
	for _, x := range memoryTerms() {
		given, want := roomy(x.t), roomy(x.t)
		room := append(slices.Clone(x.w), names("x y")...)
		w := room[:len(x.w)]
		m, fresh := must(t, given), must(t, x.t)
		first, second := ask(m, w), ask(fresh, x.w)
		is := fresh.Word(x.w)
		if !sameAnswers(first, second) || m.Word(w) != is {
			t.Fatalf("%s: spare room is looked at", tell(x.t))
		}
		wreck(first)
		spoilExpr(auto.Expr(given))
		if !sameRoom(given, want) || !slices.Equal(room, append(slices.Clone(x.w), names("x y")...)) {
			t.Fatalf("%s was changed", tell(x.t))
		}
		if !sameAnswers(ask(m, w), second) || m.Word(w) != is || !sameExpr(auto.Expr(given), auto.Expr(x.t)) {
			t.Fatalf("%s: another answer", tell(x.t))
		}
	}
}

// TestP2HandedInIsNotKept: a model goes on as before when its term is written over.
func TestP2HandedInIsNotKept(t *testing.T) {
	for _, x := range memoryTerms() {
		given := roomy(x.t)
		m, e := must(t, given), auto.Expr(given)
		spoil(given)
		if !sameAnswers(ask(m, x.w), ask(must(t, x.t), x.w)) || !sameExpr(e, auto.Expr(x.t)) {
			t.Fatalf("%s is kept", tell(x.t))
		}
	}
}

// TestP2StatesAreNotChanged: no call turns a state, or its spare room.
func TestP2StatesAreNotChanged(t *testing.T) {
	for _, x := range memoryTerms() {
		m := must(t, x.t)
		for i, one := range ask(m, x.w) {
			s, want := copied(one.s), copied(one.s)
			for _, l := range [][]int{s.Pos[:cap(s.Pos)], want.Pos[:cap(want.Pos)], s.Seen[:cap(s.Seen)], want.Seen[:cap(want.Seen)]} {
				for k := range l {
					l[k] = cap(l) - k
				}
			}
			copy(s.Pos, one.s.Pos)
			copy(want.Pos, one.s.Pos)
			copy(s.Seen, one.s.Seen)
			copy(want.Seen, one.s.Seen)
			m.Accepts(s)
			m.Next(s)
			for _, n := range append(names("a b u:a v:b"), x.w...) {
				to, _ := m.Step(s, n)
				spoilNumbers(to.Pos)
				spoilNumbers(to.Seen)
			}
			if !slices.Equal(s.Pos[:cap(s.Pos)], want.Pos[:cap(want.Pos)]) || !slices.Equal(s.Seen[:cap(s.Seen)], want.Seen[:cap(want.Seen)]) {
				t.Fatalf("%s: %d: the state was changed", tell(x.t), i)
			}
		}
	}
}

// TestP2ListsShareNothing: no two lists of one answer share any; nor where those of
// what was handed in do.
func TestP2ListsShareNothing(t *testing.T) {
	kids := []term.Term{anyOf(these("", "u")), times(0, 2, elem("v:a"))}
	x := seq(of(term.Seq, kids...), of(term.Seq, kids...), times(0, 1, choice(kids...)))
	for i := range x.Kids {
		x.Kids[i].Kids = kids
	}
	for i := range x.Kids {
		e, want := auto.Expr(x), auto.Expr(x)
		spoilExpr(e.Kids[i])
		for j := range e.Kids {
			if j != i && !sameExpr(e.Kids[j], want.Kids[j]) {
				t.Errorf("Expr: %d and %d share a list", i, j)
			}
		}
	}
	l := []string{"", "u", "v", "w"}
	m := must(t, choice(anyOf(wild.Wild{How: wild.These, Spaces: l[:2], Process: wild.Lax}), anyOf(wild.Wild{How: wild.These, Spaces: l[2:], Process: wild.Lax})))
	for i := range 2 {
		l, want := m.Next(m.Begin()), m.Next(m.Begin())
		spoil(l[i])
		if !same(l[1-i], want[1-i]) {
			t.Errorf("Next: %d shares a list", i)
		}
	}
	s, _ := must(t, times(0, -1, elem("a"))).Step(auto.State{}, name("a"))
	again, _ := must(t, times(0, -1, elem("a"))).Step(auto.State{}, name("a"))
	s.Pos[0] = 9
	if again.Pos[0] != 0 {
		t.Error("states share a list")
	}
}

// TestP7EachModelAlone: models of one term, and what is asked of one of them, turn
// nothing of another.
func TestP7EachModelAlone(t *testing.T) {
	x := seq(times(0, 3, elem("a")), maybe(anyOf(these("u", "v"))), elem("b"))
	one, other := must(t, x), must(t, x)
	if one == other {
		t.Error("one model is answered twice")
	}
	want := ask(other, names("a a u:c b"))
	wreck(ask(one, names("a a u:c b")))
	one.Word(names("c"))
	if !sameAnswers(ask(other, names("a a u:c b")), want) || !sameAnswers(ask(one, names("a a u:c b")), want) {
		t.Error("another answer")
	}
}

// TestP3TheSameAgain: in any order, and by several at once.
func TestP3TheSameAgain(t *testing.T) {
	var wait sync.WaitGroup
	terms := memoryTerms()
	models := make([]*auto.Model, len(terms))
	want := make([][]answer, len(terms))
	for i, x := range terms {
		models[i] = must(t, x.t)
		want[i] = ask(models[i], x.w)
	}
	for range 4 {
		wait.Go(func() {
			for i := range terms {
				i = len(terms) - 1 - i
				m, err := auto.Compile(terms[i].t, api.MaxPos)
				if err != api.OK || !sameAnswers(ask(m, terms[i].w), want[i]) || !sameAnswers(ask(models[i], terms[i].w), want[i]) {
					t.Errorf("%s: another answer", tell(terms[i].t))
				}
			}
		})
	}
	wait.Wait()
}

// TestP8WrongStates: states that no model answered; they need but end, and are not
// changed.
func TestP8WrongStates(t *testing.T) {
	odd := [][]int{nil, {}, {-1}, {0}, {1, 0}, {0, 0, 0}, {512}, {1 << 40}, {math.MaxInt}, {math.MinInt}, {2, 1 << 20, -7, 1}, {3, 2, 1, 0, -1}, make([]int, 1<<16)}
	for _, x := range memoryTerms()[:80] {
		m := must(t, x.t)
		for _, pos := range odd {
			for _, seen := range odd[:len(odd)-1] {
				for _, dead := range []bool{false, true} {
					s := auto.State{Dead: dead, Pos: slices.Clone(pos), Seen: slices.Clone(seen)}
					m.Accepts(s)
					m.Next(s)
					m.Step(s, name("a"))
					m.Step(s, api.Name{})
					if !slices.Equal(s.Pos, pos) || !slices.Equal(s.Seen, seen) {
						t.Fatalf("%s: %v, %v was changed", tell(x.t), pos, seen)
					}
				}
			}
		}
	}
}

// TestP8WrongTerms: terms that have no expression; they need but end.
func TestP8WrongTerms(t *testing.T) {
	for _, x := range wrongTerms() {
		for _, y := range []term.Term{x, seq(x), choice(elem("a"), x), all(x, x), deep(70, term.Choice, x), times(math.MaxInt, math.MaxInt, seq(x)), times(math.MinInt, math.MinInt, x)} {
			given := roomy(y)
			spoilExpr(auto.Expr(given))
			for _, most := range []int{math.MinInt, 0, 9, math.MaxInt} {
				if m, err := auto.Compile(given, most); (m == nil) != (err != api.OK) {
					t.Errorf("%s: %v", tell(y), err)
				}
			}
			if !sameRoom(given, roomy(y)) {
				t.Errorf("%s was changed", tell(y))
			}
		}
	}
	if e := auto.Expr(all(elem("a"))); !sameExpr(e, glush.Expr{}) {
		t.Errorf("of an All: %+v", e)
	}
}

// TestP8TooMuch: terms that are wider or deeper than may be, or within themselves.
func TestP8TooMuch(t *testing.T) {
	for i, x := range terms.TooMuch() {
		if m, err := auto.Compile(x, api.MaxPos); m != nil || err != api.ErrMany {
			t.Errorf("%d: %v", i, err)
		}
		auto.Expr(x)
	}
}
