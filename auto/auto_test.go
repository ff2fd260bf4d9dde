package auto_test

import (
	"slices"
	"strconv"
	"testing"

	"rubric/api"
	"rubric/auto"
	"rubric/glush"
	"rubric/term"
	"rubric/terms"
	"rubric/wild"
)

// Terms, written short.
var (
	name, names, elem, elems       = terms.Name, terms.Names, terms.Elem, terms.Elems
	anyOf, every, other, these     = terms.Any, terms.Every, terms.Other, terms.These
	of, seq, choice, all, empty    = terms.Of, terms.Seq, terms.Choice, terms.All, terms.Empty
	times, maybe, deep, tell, same = terms.Times, terms.Maybe, terms.Deep, terms.Tell, terms.Same
	roomy, sameRoom, spoil, hit    = terms.Roomy, terms.SameRoom, terms.Spoil, terms.Hit
	rowsUpTo                       = terms.Rows
)

// sameState answers whether both are the same; no list is an empty one.
func sameState(a, b auto.State) bool {
	return a.Dead == b.Dead && slices.Equal(a.Pos, b.Pos) && slices.Equal(a.Seen, b.Seen)
}

// must answers the model of a term that has one.
func must(t *testing.T, x term.Term) *auto.Model {
	t.Helper()
	m, err := auto.Compile(x, api.MaxPos)
	if err != api.OK {
		t.Fatalf("%s: %v", tell(x), err)
	}
	return m
}

func sym(n int) glush.Expr { return glush.Expr{Kind: glush.Sym, Sym: n} }

func expr(kind int, kids ...glush.Expr) glush.Expr { return glush.Expr{Kind: kind, Kids: kids} }

func rep(least, most int, e glush.Expr) glush.Expr {
	return glush.Expr{Kind: glush.Rep, Min: least, Max: most, Kids: []glush.Expr{e}}
}

// sameExpr answers whether both have the same fields; no list is an empty one.
func sameExpr(a, b glush.Expr) bool {
	return a.Kind == b.Kind && a.Sym == b.Sym && a.Min == b.Min && a.Max == b.Max && slices.EqualFunc(a.Kids, b.Kids, sameExpr)
}

func TestP1601Expr(t *testing.T) {
	a, b, wide := elem("a"), elem("u:b"), anyOf(every())
	odd := seq(a, b)
	odd.Kids[0].Leaf, odd.Kids[1].Leaf = 7, 3
	for _, c := range []struct {
		t    term.Term
		want glush.Expr
	}{
		{a, sym(0)},
		{wide, sym(0)},
		{empty(), expr(glush.Empty)},
		{seq(), expr(glush.Seq)},
		{choice(), expr(glush.None)},
		{seq(a), expr(glush.Seq, sym(0))},
		{choice(a), expr(glush.Alt, sym(0))},
		{choice(empty()), expr(glush.Alt, expr(glush.Empty))},
		{seq(a, b, a), expr(glush.Seq, sym(0), sym(1), sym(2))},
		{choice(a, wide), expr(glush.Alt, sym(0), sym(1))},
		{odd, expr(glush.Seq, sym(0), sym(1))},
		{term.Number(odd), expr(glush.Seq, sym(0), sym(1))},
		{times(1, 1, a), sym(0)},
		{times(0, 1, a), rep(0, 1, sym(0))},
		{times(0, 0, a), rep(0, 0, sym(0))},
		{times(0, -1, wide), rep(0, -1, sym(0))},
		{times(1, -1, a), rep(1, -1, sym(0))},
		{times(1, 2, a), rep(1, 2, sym(0))},
		{times(1000, 1000, a), rep(1000, 1000, sym(0))},
		{times(2, 3, seq(a)), rep(2, 3, expr(glush.Seq, sym(0)))},
		{times(0, -1, choice()), rep(0, -1, expr(glush.None))},
		{times(0, 2, choice(a, b)), rep(0, 2, expr(glush.Alt, sym(0), sym(1)))},
		{times(0, 5, empty()), rep(0, 5, expr(glush.Empty))},
		{
			seq(times(0, 0, choice(a, b)), maybe(seq(choice(), times(2, -1, b), empty())), a),
			expr(glush.Seq, rep(0, 0, expr(glush.Alt, sym(0), sym(1))), rep(0, 1, expr(glush.Seq, expr(glush.None), rep(2, -1, sym(2)), expr(glush.Empty))), sym(3)),
		},
		{deep(63, term.Seq, a), deepExpr(63, sym(0))},
		{seq(elems(api.MaxNodes - 1)...), expr(glush.Seq, syms(api.MaxNodes-1)...)},
	} {
		if got := auto.Expr(c.t); !sameExpr(got, c.want) {
			t.Errorf("%s: %+v; want %+v", tell(c.t), got, c.want)
		}
	}
}

func deepExpr(n int, e glush.Expr) glush.Expr {
	for range n {
		e = expr(glush.Seq, e)
	}
	return e
}

func syms(n int) []glush.Expr {
	var l []glush.Expr
	for i := range n {
		l = append(l, sym(i))
	}
	return l
}

// TestP1601ExprWords: a term's words, said by its leaves' numbers, are those of its
// expression.
func TestP1601ExprWords(t *testing.T) {
	d := newDice(11)
	for range 3000 {
		x := term.Number(d.Within(3))
		byNumber := x
		byNumber = named(byNumber)
		e := auto.Expr(x)
		for range 20 {
			var w []int
			var l []api.Name
			for range d.Throw(5) {
				w = append(w, d.Throw(max(len(term.Leaves(x)), 1)))
				l = append(l, name("n"+strconv.Itoa(w[len(w)-1])))
			}
			if got, want := glush.Word(e, w), term.Word(byNumber, l); got != want {
				t.Fatalf("%s: %v: %v", tell(x), w, got)
			}
		}
	}
}

// named answers a term whose leaves are all elements, called by their numbers.
func named(t term.Term) term.Term {
	if t.Kind == term.Elem || t.Kind == term.Any {
		return times(t.Min, t.Max, elem("n"+strconv.Itoa(t.Leaf)))
	}
	t.Kids = slices.Clone(t.Kids)
	for i := range t.Kids {
		t.Kids[i] = named(t.Kids[i])
	}
	return t
}

// wrongTerms are terms that Check refuses by ErrArg, one for each reason.
func wrongTerms() []term.Term {
	a := elem("a")
	within := a
	within.Kids = []term.Term{a}
	return []term.Term{
		{}, {Kind: 7, Min: 1, Max: 1}, {Kind: -1, Min: 1, Max: 1},
		times(-1, 1, a), times(1001, 1001, a), times(2, 1, a), times(0, -2, a), times(0, 1001, a),
		elem(""), anyOf(wild.Wild{}), anyOf(these("b", "a")), within,
		{Kind: term.Empty, Min: 1, Max: 1, Kids: []term.Term{a}},
		seq(all(a)), choice(all()), times(0, 2, all(a)), times(0, 0, all(a)),
		all(seq(a)), all(anyOf(every())), all(times(0, 2, a)), all(times(1, -1, a)), all(a, a), all(elem("b"), a, maybe(a)),
		seq(a, times(3, 2, a)),
	}
}

func TestP1601WrongTerms(t *testing.T) {
	for _, x := range wrongTerms() {
		if m, err := auto.Compile(x, api.MaxPos); m != nil || err != api.ErrArg {
			t.Errorf("%s: %v", tell(x), err)
		}
	}
	for i, x := range []term.Term{seq(elems(api.MaxNodes)...), deep(64, term.Choice, elem("a")), all(elems(api.MaxNodes)...)} {
		if m, err := auto.Compile(x, api.MaxPos); m != nil || err != api.ErrMany {
			t.Errorf("%d: %v", i, err)
		}
	}
}

func TestP1601Many(t *testing.T) {
	a := elem("a")
	for _, c := range []struct {
		t    term.Term
		most int
		err  api.Errno
	}{
		{a, 1, api.OK}, {a, 0, api.ErrMany}, {a, -1, api.ErrMany}, {a, api.MaxPos + 1, api.OK}, {a, 1 << 40, api.OK},
		{times(0, 0, a), 0, api.OK}, {times(0, 0, a), -1, api.ErrMany},
		{empty(), 0, api.OK}, {empty(), -1, api.ErrMany}, {seq(), -1 << 40, api.ErrMany},
		{times(2, 7, a), 7, api.OK}, {times(2, 7, a), 6, api.ErrMany},
		{times(7, -1, a), 7, api.OK}, {times(7, -1, a), 6, api.ErrMany},
		{times(0, api.MaxPos, a), api.MaxPos, api.OK}, {times(0, api.MaxPos+1, a), api.MaxPos, api.ErrMany},
		{times(0, api.MaxPos+1, a), api.MaxPos + 1, api.ErrMany},
		{times(0, 1000, a), 1 << 40, api.ErrMany},
		{seq(elems(api.MaxPos)...), api.MaxPos, api.OK}, {seq(elems(api.MaxPos + 1)...), 1 << 40, api.ErrMany},
		{seq(times(3, 3, seq(a, times(0, 2, elem("b")))), a), 10, api.OK}, {seq(times(3, 3, seq(a, times(0, 2, elem("b")))), a), 9, api.ErrMany},
		// As an expression this one has more nodes than there may be.
		{seq(noTimes(elems(2047))...), 10, api.OK}, {seq(noTimes(elems(2048))...), 10, api.ErrMany},
	} {
		m, err := auto.Compile(c.t, c.most)
		if err != c.err || (m == nil) != (err != api.OK) {
			t.Errorf("%.50s, %d: %v", tell(c.t), c.most, err)
		}
	}
}

// noTimes answers terms that stand never.
func noTimes(l []term.Term) []term.Term {
	for i := range l {
		l[i] = times(0, 0, l[i])
	}
	return l
}

func TestP1601ManyKids(t *testing.T) {
	wide := elems(api.MaxPos + 1)
	for _, c := range []struct {
		t    term.Term
		most int
		err  api.Errno
	}{
		{all(), 0, api.OK}, {all(), -1, api.ErrMany},
		{all(elem("a"), elem("b")), 2, api.OK}, {all(elem("a"), elem("b")), 1, api.ErrMany},
		{all(times(0, 0, elem("a")), maybe(elem("b"))), 1, api.ErrMany},
		{all(wide[1:]...), api.MaxPos, api.OK}, {all(wide[1:]...), 1 << 40, api.OK}, {all(wide[1:]...), api.MaxPos - 1, api.ErrMany},
		{all(wide...), api.MaxPos + 1, api.ErrMany}, {maybe(all(wide...)), 1 << 40, api.ErrMany},
		{all(noTimes(wide)...), 1 << 40, api.ErrMany},
	} {
		m, err := auto.Compile(c.t, c.most)
		if err != c.err || (m == nil) != (err != api.OK) {
			t.Errorf("%.50s, %d: %v", tell(c.t), c.most, err)
		}
	}
}

func TestP1601Attribution(t *testing.T) {
	a, b, c, wide := elem("a"), elem("b"), elem("c"), anyOf(every())
	ua, inU, outU, none := elem("u:a"), anyOf(these("u")), anyOf(other("u")), anyOf(these())
	for _, x := range []struct {
		t   term.Term
		err api.Errno
	}{
		{seq(a, a), api.OK}, {seq(a, a, a), api.OK}, {choice(a, a), api.ErrNot}, {choice(a, b, a), api.ErrNot}, {choice(a, b), api.OK},
		{choice(a, ua), api.OK}, {choice(ua, elem("v:a")), api.OK}, {choice(ua, ua), api.ErrNot},
		{seq(maybe(a), a), api.ErrNot}, {seq(maybe(a), b, a), api.OK}, {seq(maybe(a), maybe(b), a), api.ErrNot}, {seq(a, maybe(a)), api.OK},
		{seq(times(0, -1, a), a), api.ErrNot}, {seq(times(2, 3, a), a), api.ErrNot}, {seq(times(3, 3, a), a), api.OK}, {seq(times(2, -1, a), b, a), api.OK},
		{times(0, -1, a), api.OK}, {times(0, -1, times(0, -1, a)), api.OK}, {times(2, 9, times(0, 3, a)), api.OK},
		{times(1, 2, seq(a, maybe(b))), api.OK}, {times(1, 2, seq(maybe(b), a, maybe(b))), api.ErrNot}, {times(1, 1, seq(maybe(b), a, maybe(b))), api.OK},
		{times(0, -1, seq(a, maybe(a))), api.ErrNot}, {times(0, 1, seq(a, maybe(a))), api.OK}, {times(1, 2, seq(a, maybe(a))), api.ErrNot},
		{seq(a, choice(b, seq(c, choice(b, b)))), api.ErrNot}, {seq(choice(a, b), choice(a, b)), api.OK},
		{times(0, 0, choice(a, a)), api.OK}, {choice(a, times(0, 0, a)), api.OK}, {seq(times(0, 0, a), a), api.OK},
		// Wildcards.
		{wide, api.OK}, {seq(wide, wide), api.OK}, {choice(wide, wide), api.ErrNot}, {choice(a, wide), api.ErrNot}, {choice(wide, a), api.ErrNot},
		{seq(maybe(a), wide), api.ErrNot}, {seq(a, wide), api.OK}, {seq(times(0, -1, wide), a), api.ErrNot}, {times(0, -1, wide), api.OK},
		{choice(a, inU), api.OK}, {choice(ua, inU), api.ErrNot}, {choice(ua, outU), api.OK}, {choice(elem("v:a"), outU), api.ErrNot},
		{choice(inU, outU), api.OK}, {choice(inU, anyOf(these("u", "v"))), api.ErrNot}, {choice(anyOf(these("", "v")), outU), api.ErrNot},
		{choice(anyOf(other("u")), anyOf(other("v"))), api.ErrNot}, {choice(anyOf(other("")), anyOf(these(""))), api.OK}, {choice(a, outU), api.OK},
		{choice(anyOf(other("")), ua), api.ErrNot}, {choice(anyOf(these("", "u")), anyOf(these("", "v"))), api.ErrNot},
		{choice(none, wide), api.OK}, {choice(none, none), api.OK}, {seq(none, choice(a, a)), api.OK}, {none, api.OK},
		// What leads to no word is a row too.
		{choice(a, seq(a, choice())), api.ErrNot}, {choice(b, seq(a, choice(c, c), choice())), api.ErrNot}, {choice(b, seq(choice(), choice(a, a))), api.OK},
	} {
		if m, err := auto.Compile(x.t, api.MaxPos); err != x.err || (m == nil) != (err != api.OK) {
			t.Errorf("%s: %v; want %v", tell(x.t), err, x.err)
		}
	}
}

func TestP1601NoWord(t *testing.T) {
	a := elem("a")
	for _, x := range []struct {
		t   term.Term
		err api.Errno
	}{
		{choice(), api.ErrNot}, {maybe(choice()), api.OK}, {times(0, 0, choice()), api.OK}, {times(1, -1, choice()), api.ErrNot}, {times(3, 3, choice()), api.ErrNot},
		{seq(a, choice()), api.ErrNot}, {seq(choice(), a), api.ErrNot}, {seq(a, maybe(choice())), api.OK}, {choice(a, choice()), api.OK},
		{choice(choice(), choice()), api.ErrNot}, {choice(choice(), empty()), api.OK}, {seq(), api.OK}, {empty(), api.OK}, {times(2, 2, a), api.OK},
		// Whatever an Any allows.
		{anyOf(these()), api.OK}, {seq(anyOf(these()), a), api.OK}, {seq(anyOf(these()), choice()), api.ErrNot},
		{all(), api.OK}, {all(a), api.OK}, {maybe(all(times(0, 0, a))), api.OK},
	} {
		if m, err := auto.Compile(x.t, api.MaxPos); err != x.err || (m == nil) != (err != api.OK) {
			t.Errorf("%s: %v; want %v", tell(x.t), err, x.err)
		}
	}
}

// TestP6ErrorsInTheirOrder: of several errors the first one that the chapter names.
func TestP6ErrorsInTheirOrder(t *testing.T) {
	a, none := elem("a"), choice()
	long := choice(choice(a, a), times(0, 600, elem("b")))
	for i, c := range []struct {
		t    term.Term
		most int
		err  api.Errno
	}{
		{seq(times(2, 1, a), choice(a, a)), 0, api.ErrArg}, {all(a, a), 1, api.ErrArg}, {times(0, 5, all(elems(600)...)), 1, api.ErrArg},
		{seq(append(elems(api.MaxNodes), term.Term{})...), 0, api.ErrMany}, {deep(64, term.Seq, term.Term{}), 0, api.ErrMany},
		{long, api.MaxPos, api.ErrMany}, {choice(a, a), 1, api.ErrMany}, {choice(a, a), 2, api.ErrNot},
		{seq(a, none), 0, api.ErrMany}, {seq(a, none), 1, api.ErrNot},
		{seq(tooManyStates(), none), api.MaxPos, api.ErrMany},
	} {
		if m, err := auto.Compile(c.t, c.most); m != nil || err != c.err {
			t.Errorf("%d: %v; want %v", i, err, c.err)
		}
	}
}
