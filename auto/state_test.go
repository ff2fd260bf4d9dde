package auto_test

import (
	"slices"
	"testing"

	"rubric/api"
	"rubric/auto"
	"rubric/glush"
	"rubric/term"
	"rubric/wild"
)

// dead is the state that no name leads out of.
func dead() auto.State { return auto.State{Dead: true} }

func at(l ...int) auto.State { return auto.State{Pos: l} }

func seen(l ...int) auto.State { return auto.State{Seen: l} }

// stepping is a name, and where it leads to from where the one ahead of it led to.
type stepping struct {
	name   string
	to     auto.State
	leaf   int
	ends   bool
	expect []int // the leaves that may hit the next name
}

func TestP1602Steps(t *testing.T) {
	a, b, c := elem("a"), elem("b"), elem("c")
	outU := anyOf(other("u"))
	for _, x := range []struct {
		t      term.Term
		ends   bool
		expect []int
		steps  []stepping
	}{
		{seq(times(0, 3, a), b), false, []int{0, 1}, []stepping{
			{"a", at(0), 0, false, []int{0, 1}}, {"a", at(1), 0, false, []int{0, 1}}, {"a", at(2), 0, false, []int{1}}, {"b", at(3), 1, true, nil}, {"b", dead(), -1, false, nil}, {"a", dead(), -1, false, nil},
		}},
		{times(0, -1, choice(times(1, 2, a), b)), true, []int{0, 1}, []stepping{
			{"a", at(0), 0, true, []int{0, 1}}, {"a", at(0, 1), 0, true, []int{0, 1}}, {"a", at(0, 1), 0, true, []int{0, 1}}, {"b", at(2), 1, true, []int{0, 1}}, {"c", dead(), -1, false, nil},
		}},
		{times(2, 3, seq(times(1, 2, a), maybe(b))), false, []int{0}, []stepping{
			{"a", at(0), 0, false, []int{0, 1}}, {"a", at(1, 3), 0, true, []int{0, 1}}, {"a", at(3, 4, 6), 0, true, []int{0, 1}}, {"b", at(5, 8), 1, true, []int{0}}, {"a", at(6), 0, true, []int{0, 1}}, {"a", at(7), 0, true, []int{1}}, {"b", at(8), 1, true, nil},
		}},
		{times(2, 3, choice(seq(a, outU), b)), false, []int{0, 2}, []stepping{
			{"a", at(0), 0, false, []int{1}}, {"w:x", at(1), 1, false, []int{0, 2}}, {"b", at(5), 2, true, []int{0, 2}}, {"u:b", dead(), -1, false, nil},
		}},
		{seq(a, outU, c), false, []int{0}, []stepping{{"a", at(0), 0, false, []int{1}}, {"c", dead(), -1, false, nil}}},
		{seq(a, outU, c), false, []int{0}, []stepping{{"b", dead(), -1, false, nil}}},
		{seq(a, outU, c), false, []int{0}, []stepping{{"v:a", dead(), -1, false, nil}}},
		{seq(maybe(a), anyOf(these()), b), false, []int{0}, []stepping{{"a", at(0), 0, false, nil}, {"b", dead(), -1, false, nil}}},
		{seq(times(0, 0, a), b), false, []int{1}, []stepping{{"b", at(0), 1, true, nil}}},
		{seq(a, maybe(seq(b, choice()))), false, []int{0}, []stepping{{"a", at(0), 0, true, []int{1}}, {"b", at(1), 1, false, nil}}},
		{empty(), true, nil, []stepping{{"a", dead(), -1, false, nil}}},
		{maybe(seq(times(2, -1, a))), true, []int{0}, []stepping{{"a", at(0), 0, false, []int{0}}, {"a", at(1), 0, true, []int{0}}, {"a", at(1), 0, true, []int{0}}}},
		// Of an All.
		{all(a, maybe(b)), false, []int{0, 1}, []stepping{{"a", seen(0), 0, true, []int{1}}, {"b", seen(0, 1), 1, true, nil}, {"b", dead(), -1, false, nil}}},
		{all(a, maybe(b), c), false, []int{0, 1, 2}, []stepping{{"c", seen(2), 2, false, []int{0, 1}}, {"b", seen(1, 2), 1, false, []int{0}}, {"a", seen(0, 1, 2), 0, true, nil}}},
		{maybe(all(a, maybe(b))), true, []int{0, 1}, []stepping{{"b", seen(1), 1, false, []int{0}}, {"b", dead(), -1, false, nil}, {"a", dead(), -1, false, nil}}},
		{all(maybe(a), times(0, 0, b), elem("u:a")), false, []int{0, 2}, []stepping{{"u:a", seen(2), 2, true, []int{0}}, {"b", dead(), -1, false, nil}}},
		{all(maybe(a), maybe(c)), true, []int{0, 1}, []stepping{{"c", seen(1), 1, true, []int{0}}, {"w:c", dead(), -1, false, nil}}},
		{all(), true, nil, []stepping{{"a", dead(), -1, false, nil}}},
		{maybe(all(a)), true, []int{0}, []stepping{{"a", seen(0), 0, true, nil}}},
	} {
		m := must(t, x.t)
		s, leaves := m.Begin(), term.Leaves(term.Number(x.t))
		if !sameState(s, auto.State{}) || m.Accepts(s) != x.ends || !sameTerms(m.Next(s), leavesAt(leaves, x.expect)) {
			t.Errorf("%s: %+v, %v, %v", tell(x.t), s, m.Accepts(s), m.Next(s))
		}
		for i, want := range x.steps {
			var leaf int
			s, leaf = m.Step(s, name(want.name))
			if !sameState(s, want.to) || leaf != want.leaf || m.Accepts(s) != want.ends || !sameTerms(m.Next(s), leavesAt(leaves, want.expect)) {
				t.Errorf("%s: %d: %+v, %d, %v, %v", tell(x.t), i, s, leaf, m.Accepts(s), m.Next(s))
			}
		}
	}
}

func leavesAt(leaves []term.Term, l []int) []term.Term {
	var out []term.Term
	for _, i := range l {
		out = append(out, leaves[i])
	}
	return out
}

func sameTerms(a, b []term.Term) bool { return slices.EqualFunc(a, b, same) }

// TestP1602NoListIsNone: what a state does not say is no list, not just an empty one.
func TestP1602NoListIsNone(t *testing.T) {
	m := must(t, maybe(elem("a")))
	one, _ := m.Step(m.Begin(), name("a"))
	gone, leaf := m.Step(one, name("a"))
	if begin := m.Begin(); begin.Dead || begin.Pos != nil || begin.Seen != nil || one.Pos == nil || one.Seen != nil {
		t.Errorf("%+v, %+v", begin, one)
	}
	if !gone.Dead || gone.Pos != nil || gone.Seen != nil || leaf != -1 {
		t.Errorf("%+v, %d", gone, leaf)
	}
	m = must(t, all(elem("a")))
	one, _ = m.Step(m.Begin(), name("a"))
	gone, _ = m.Step(one, name("a"))
	if one.Pos != nil || gone.Pos != nil || gone.Seen != nil || m.Begin().Seen != nil {
		t.Errorf("%+v, %+v", one, gone)
	}
}

// TestP2NoListIsAnEmptyOne: a state that was handed an empty list has none.
func TestP2NoListIsAnEmptyOne(t *testing.T) {
	for _, x := range []term.Term{seq(elem("a"), elem("b")), maybe(elem("a")), all(elem("a")), maybe(all(elem("a")))} {
		m := must(t, x)
		s := auto.State{Pos: []int{}, Seen: []int{}}
		to, leaf := m.Step(s, name("a"))
		want, _ := m.Step(m.Begin(), name("a"))
		if !sameState(to, want) || leaf != 0 || m.Accepts(s) != m.Accepts(m.Begin()) || len(m.Next(s)) != 1 {
			t.Errorf("%s: %+v, %d", tell(x), to, leaf)
		}
	}
	x := seq()
	x.Kids = []term.Term{}
	if m := must(t, x); !m.Word(nil) || !m.Word([]api.Name{}) {
		t.Error("an empty row is another one than none")
	}
	x = choice()
	x.Kids = []term.Term{}
	if got := auto.Expr(x); got.Kind != glush.None {
		t.Errorf("%+v", got)
	}
	none := elem("a")
	none.Kids, none.W.Spaces = []term.Term{}, []string{}
	if m := must(t, none); !m.Word(names("a")) {
		t.Error("an empty list is another one than none")
	}
}

func TestP1602Dead(t *testing.T) {
	for _, x := range []term.Term{maybe(elem("a")), times(0, -1, anyOf(every())), maybe(all(elem("a"))), all()} {
		m := must(t, x)
		for _, s := range []auto.State{dead(), {Dead: true, Pos: []int{0}, Seen: []int{0}}} {
			if to, leaf := m.Step(s, name("a")); !sameState(to, dead()) || leaf != -1 || m.Accepts(s) || len(m.Next(s)) != 0 {
				t.Errorf("%s: %+v, %d, %v, %v", tell(x), to, leaf, m.Accepts(s), m.Next(s))
			}
		}
	}
}

func TestP1602Leaf(t *testing.T) {
	a, inU := times(2, 3, elem("a")), times(0, -1, anyOf(these("u", "v")))
	a.Leaf, inU.Leaf = 9, 9
	for _, x := range []struct {
		t         term.Term
		positions int
		leaves    []term.Term
	}{
		{a, 3, []term.Term{a}}, {seq(a, inU, empty()), 4, []term.Term{a, inU}}, {times(2, 5, seq(a, elem("b"))), 20, []term.Term{a, elem("b")}},
		{seq(times(0, 0, elem("a")), elem("b")), 1, []term.Term{times(0, 0, elem("a")), elem("b")}},
		{empty(), 0, nil}, {seq(), 0, nil},
		{all(elem("a"), times(0, 0, elem("b")), maybe(elem("c"))), 3, []term.Term{elem("a"), times(0, 0, elem("b")), maybe(elem("c"))}},
		{maybe(all()), 0, nil}, {times(1, -1, seq(times(3, -1, elem("b")))), 3, []term.Term{times(3, -1, elem("b"))}},
	} {
		m := must(t, x.t)
		if m.Positions() != x.positions {
			t.Errorf("%s: %d", tell(x.t), m.Positions())
		}
		for i, want := range x.leaves {
			want.Leaf = i
			if leaf, is := m.Leaf(i); !is || !same(leaf, want) {
				t.Errorf("%s: %d: %+v", tell(x.t), i, leaf)
			}
		}
		for _, i := range []int{-1, -1 << 60, len(x.leaves), len(x.leaves) + 1, 1 << 60} {
			if leaf, is := m.Leaf(i); is || !same(leaf, term.Term{}) {
				t.Errorf("%s: %d: %+v", tell(x.t), i, leaf)
			}
		}
	}
}

// TestP1602Next: what Next tells are just the leaves that Step tells of any name.
func TestP1602Next(t *testing.T) {
	d := newDice(21)
	for range 4000 {
		x, m := d.model(3)
		l := term.Names(term.Leaves(x)...)
		s := m.Begin()
		for range 6 {
			hit := map[int]int{}
			for _, n := range l {
				if _, leaf := m.Step(s, n); leaf >= 0 {
					hit[leaf]++
				}
			}
			var told []int
			for i, leaf := range m.Next(s) {
				told = append(told, leaf.Leaf)
				if is, ok := m.Leaf(leaf.Leaf); !ok || !same(is, leaf) || i > 0 && told[i-1] >= leaf.Leaf || hit[leaf.Leaf] == 0 {
					t.Fatalf("%s: %+v: %v", tell(x), s, told)
				}
			}
			if len(told) != len(hit) {
				t.Fatalf("%s: %+v: %v", tell(x), s, told)
			}
			s, _ = m.Step(s, d.likely(m, s, l))
		}
	}
}

// model throws terms till one has a model.
func (d dice) model(depth int) (term.Term, *auto.Model) {
	for {
		x := d.Top(depth)
		if m, err := auto.Compile(x, api.MaxPos); err == api.OK {
			return x, m
		}
	}
}

// likely answers one of l, now and then a name that leads on from s.
func (d dice) likely(m *auto.Model, s auto.State, l []api.Name) api.Name {
	n := l[d.Throw(len(l))]
	if next := m.Next(s); len(next) > 0 && d.Throw(4) > 0 {
		leaf := next[d.Throw(len(next))]
		for !term.Hits(leaf, n) {
			n = l[d.Throw(len(l))]
		}
	}
	return n
}

// TestP1602Positions: a state's positions are those at which glush's automaton stands
// behind the leaves that were told.
func TestP1602Positions(t *testing.T) {
	d := newDice(22)
	for range 6000 {
		x, m := d.model(3)
		if x.Kind == term.All {
			continue
		}
		a, err := glush.Build(auto.Expr(x), api.MaxPos)
		if err != api.OK || len(a.Syms) != m.Positions() {
			t.Fatalf("%s: %v, %d", tell(x), err, m.Positions())
		}
		l := term.Names(term.Leaves(x)...)
		s := m.Begin()
		var want []int
		for range 10 {
			if m.Accepts(s) != a.Ends(want) {
				t.Fatalf("%s: %+v", tell(x), s)
			}
			var leaf int
			s, leaf = m.Step(s, d.likely(m, s, l))
			if s.Dead != (leaf == -1) {
				t.Fatalf("%s: %+v, %d", tell(x), s, leaf)
			}
			if s.Dead {
				break
			}
			want = a.Step(want, leaf)
			if !sameState(s, at(want...)) {
				t.Fatalf("%s: %+v; want %v", tell(x), s, want)
			}
		}
	}
}

// TestP1602Seen: a state of an All has the kids that were told, rising.
func TestP1602Seen(t *testing.T) {
	d := newDice(23)
	for range 4000 {
		x := d.All()
		m := must(t, x)
		l := term.Names(term.Leaves(x)...)
		s := m.Begin()
		var met []int
		for range 8 {
			n := d.likely(m, s, l)
			to, leaf := m.Step(s, n)
			i := slices.IndexFunc(x.Kids, func(k term.Term) bool { return k.Name == n && k.Max == 1 })
			if slices.Contains(met, i) {
				i = -1
			}
			if leaf != i || to.Dead != (i == -1) || to.Dead && !sameState(to, dead()) {
				t.Fatalf("%s: %+v, %v: %+v, %d", tell(x), s, n, to, leaf)
			}
			if to.Dead {
				continue
			}
			met = append(met, i)
			slices.Sort(met)
			if s = to; !sameState(s, seen(met...)) {
				t.Fatalf("%s: %+v; want %v", tell(x), s, met)
			}
		}
	}
}

// TestP1602WildNames: a leaf's name may be one that no term speaks of.
func TestP1602WildNames(t *testing.T) {
	m := must(t, seq(times(0, -1, anyOf(wild.Wild{How: wild.Other, Not: "u", Process: wild.Lax})), elem("b")))
	s := m.Begin()
	for _, text := range []string{"w:?", "?:?", "w:b", "x:b"} {
		if s, _ = m.Step(s, name(text)); !sameState(s, at(0)) {
			t.Errorf("%s: %+v", text, s)
		}
	}
	if to, _ := m.Step(s, name("u:b")); !to.Dead {
		t.Errorf("%+v", to)
	}
}
