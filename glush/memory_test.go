package glush_test

import (
	"math"
	"reflect"
	"runtime/debug"
	"slices"
	"testing"

	"rubric/api"
	"rubric/glush"
)

// clone answers an expression that shares nothing with e.
func clone(e glush.Expr) glush.Expr {
	e.Kids = slices.Clone(e.Kids)
	for i := range e.Kids {
		e.Kids[i] = clone(e.Kids[i])
	}
	return e
}

func cloneAuto(a glush.Auto) glush.Auto {
	a.Syms, a.First, a.Last, a.Follow = slices.Clone(a.Syms), slices.Clone(a.First), slices.Clone(a.Last), slices.Clone(a.Follow)
	for i := range a.Follow {
		a.Follow[i] = slices.Clone(a.Follow[i])
	}
	return a
}

// roomy answers the same expression, with spare room behind all its kids, and
// lists for those that have none.
func roomy(e glush.Expr) glush.Expr {
	l := make([]glush.Expr, len(e.Kids), len(e.Kids)+2)
	for i, k := range e.Kids {
		l[i] = roomy(k)
	}
	l[:cap(l)][len(l)], l[:cap(l)][len(l)+1] = sym(77), none()
	e.Kids = l
	return e
}

// sameRoom answers whether both are the same, their spare room too.
func sameRoom(e, f glush.Expr) bool {
	a, b := e.Kids[:cap(e.Kids)], f.Kids[:cap(f.Kids)]
	if !reflect.DeepEqual(a[len(e.Kids):], b[len(f.Kids):]) || !slices.EqualFunc(e.Kids, f.Kids, sameRoom) {
		return false
	}
	e.Kids, f.Kids = nil, nil
	return reflect.DeepEqual(e, f)
}

func memoryExprs() []glush.Expr {
	a, b := sym(1), sym(2)
	out := []glush.Expr{empty(), none(), a, seq(a, b), alt(a, b), rep(0, -1, a), rep(2, -1, alt(a, b)), rep(0, 70, a), rep(3, 5, seq(alt(a, empty()), b)), seq(a, none(), b), seq(times(100, rep(0, 1, a))...), rep(0, -1, rep(0, -1, rep(1, 2, alt(a, b))))}
	d := dice(9)
	for len(out) < 200 {
		if e := d.expr(4); glush.Positions(e, 100) <= 100 {
			out = append(out, e)
		}
	}
	return out
}

// TestP2NothingIsChanged: no call turns an expression, a word, or their spare room.
func TestP2NothingIsChanged(t *testing.T) {
	for _, e := range memoryExprs() {
		given, want := roomy(e), roomy(e)
		room := []int{1, 2, 1, 8, 9}
		w := room[:3]
		glush.Check(given)
		glush.Positions(given, 100)
		a, _ := glush.Build(given, 200)
		glush.Word(given, w)
		a.Word(w)
		if !sameRoom(given, want) || !slices.Equal(room, []int{1, 2, 1, 8, 9}) {
			t.Errorf("%s was changed", tell(e))
		}
		// Nor is the expression kept.
		before := cloneAuto(a)
		spoil(given)
		if !sameAuto(a, before) {
			t.Errorf("%s is kept", tell(e))
		}
	}
}

func spoil(e glush.Expr) {
	for i := range e.Kids {
		spoil(e.Kids[i])
		e.Kids[i] = glush.Expr{Kind: 99, Sym: -7}
	}
}

// TestP2StepChangesNothing: neither Step nor Ends nor Live turns an automaton's
// lists, the positions handed in, or their spare room; and a Step's answer is new.
func TestP2StepChangesNothing(t *testing.T) {
	for _, e := range memoryExprs() {
		a := built(t, e)
		for i := range a.Follow {
			a.Follow[i] = append(a.Follow[i], 55, 56)[:len(a.Follow[i])]
		}
		a.First, a.Last = append(a.First, 55, 56)[:len(a.First)], append(a.Last, 55, 56)[:len(a.Last)]
		lists := append([][]int{a.First, a.Last}, a.Follow...)
		want := cloneAuto(a)
		room := []int{0, 0, 0, 5, 6}
		for _, from := range [][]int{nil, {}, room[:min(1, len(a.Syms))], a.First, a.Last} {
			for s := range 3 {
				a.Ends(from)
				a.Live()
				one, two := a.Step(from, s), a.Step(from, s)
				over := one[:cap(one)]
				for i := range over {
					over[i] = -9
				}
				if three := a.Step(from, s); !slices.Equal(two, three) || !sameAuto(a, want) {
					t.Fatalf("%s: Step(%v, %d) shares memory", tell(e), from, s)
				}
			}
		}
		for _, l := range lists {
			if !slices.Equal(l[:len(l)+2][len(l):], []int{55, 56}) {
				t.Errorf("%s: spare room was changed", tell(e))
			}
		}
		if !slices.Equal(room, []int{0, 0, 0, 5, 6}) {
			t.Errorf("%s: %v", tell(e), room)
		}
	}
}

// TestP2NoTwoListsShare: to write over one list of an automaton and its spare room
// turns no other, nor what the same call answers next.
func TestP2NoTwoListsShare(t *testing.T) {
	for _, e := range memoryExprs() {
		a, want := built(t, e), built(t, e)
		lists := append([][]int{a.Syms, a.First, a.Last}, a.Follow...)
		wants := append([][]int{want.Syms, want.First, want.Last}, want.Follow...)
		for i, l := range lists {
			over := l[:cap(l)]
			old := slices.Clone(over)
			for k := range over {
				over[k] = -9
			}
			for k := range lists {
				if k != i && !slices.Equal(lists[k], wants[k]) {
					t.Fatalf("%s: lists %d and %d share memory", tell(e), i, k)
				}
			}
			if !sameAuto(built(t, e), want) {
				t.Fatalf("%s: list %d is kept", tell(e), i)
			}
			copy(over, old)
		}
	}
}

// TestP2NoListIsAnEmptyOne: a list of kids or a word may be nil or empty; but to
// Step and Ends nil is the beginning.
func TestP2NoListIsAnEmptyOne(t *testing.T) {
	for kind := range 8 {
		a, b := glush.Expr{Kind: kind, Max: 3}, glush.Expr{Kind: kind, Max: 3, Kids: []glush.Expr{}}
		x, err := glush.Build(a, 9)
		y, wrong := glush.Build(b, 9)
		if glush.Check(a) != glush.Check(b) || glush.Positions(a, 9) != glush.Positions(b, 9) || err != wrong || !sameAuto(x, y) {
			t.Errorf("kind %d", kind)
		}
		for _, w := range [][]int{nil, {}} {
			if glush.Word(a, w) != glush.Word(b, nil) || x.Word(w) != y.Word(nil) {
				t.Errorf("kind %d: %v", kind, w)
			}
		}
	}
	a := built(t, rep(0, -1, sym(1)))
	if !a.Ends(nil) || a.Ends([]int{}) || len(a.Step(nil, 1)) != 1 || len(a.Step([]int{}, 1)) != 0 || a.Step([]int{}, 1) == nil {
		t.Error("nil is not the beginning, or an empty list is")
	}
}

func TestP3SameAnswers(t *testing.T) {
	list := memoryExprs()
	var autos []glush.Auto
	for _, e := range list {
		autos = append(autos, built(t, e))
	}
	for _, e := range wrong() {
		glush.Build(e, 9)
		glush.Word(e, nil)
	}
	for i, e := range list {
		if !reflect.DeepEqual(built(t, e), autos[i]) {
			t.Errorf("%s: another answer", tell(e))
		}
	}
}

// TestP8PositionsOfWhatMayNotBe: every call ends without a panic.
func TestP8PositionsOfWhatMayNotBe(t *testing.T) {
	over, _ := many(true)
	list := append(wrong(), over...)
	for _, e := range append(list, rep(0, math.MaxInt, seq(sym(1), sym(1))), rep(math.MaxInt, -1, rep(math.MaxInt, math.MaxInt, sym(1))), rep(math.MinInt, math.MinInt, sym(1))) {
		for _, most := range []int{math.MinInt, -2, -1, 0, 7, 1 << 20, 1<<20 + 1, math.MaxInt - 1, math.MaxInt} {
			if got := glush.Positions(e, most); got < 0 {
				t.Errorf("Positions(%s, %d): %d", tell(e), most, got)
			}
		}
	}
}

// TestP903WhatBuildDidNotTell: no automaton and no list of positions makes a
// panic.
func TestP903WhatBuildDidNotTell(t *testing.T) {
	d := dice(10)
	odd := []int{math.MinInt, -65, -64, -1, 0, 1, 2, 3, 4, 63, 64, 1 << 40, math.MaxInt}
	list := func() (l []int) {
		for range d.throw(5) {
			l = append(l, odd[d.throw(len(odd))])
		}
		return l
	}
	for range 20000 {
		a := glush.Auto{Syms: list(), Nullable: d.throw(2) == 0, First: list(), Last: list()}
		for range d.throw(6) {
			a.Follow = append(a.Follow, list())
		}
		want := cloneAuto(a)
		live := false
		for _, w := range [][]int{nil, {0}, {1}, {0, 1}, {1, 0, -1}, list(), list()} {
			live = live || a.Word(w)
		}
		for _, s := range odd {
			if a.Step(list(), s) == nil || a.Step(nil, s) == nil {
				t.Fatalf("Step of %v: nil", a)
			}
		}
		a.Ends(list())
		if live && !a.Live() || !sameAuto(a, want) {
			t.Fatalf("Live of %v: false", a)
		}
	}
	// What is out of range is not there.
	a := built(t, seq(sym(1), sym(1)))
	for _, p := range []int{-1, 2, 3, math.MaxInt, math.MinInt} {
		if len(a.Step([]int{p}, 1)) != 0 || a.Ends([]int{p}) || !slices.Equal(a.Step([]int{p, 0}, 1), []int{1}) {
			t.Errorf("position %d", p)
		}
	}
}

// TestP1Deep: no expression is too deep for a call to end.
func TestP1Deep(t *testing.T) {
	defer debug.SetMaxStack(debug.SetMaxStack(8 << 20))
	e := sym(1)
	for i := range 1000000 {
		e = []glush.Expr{seq(e), alt(e), rep(0, -1, e), rep(1, 1, e), with(sym(1), e)}[i%5]
	}
	checkRefused(t, e)
}

// checkRefused: an expression of too many nodes is refused by each call that may.
func checkRefused(t *testing.T, e glush.Expr) {
	t.Helper()
	if err := glush.Check(e); err != api.ErrMany {
		t.Errorf("Check: %v", err)
	}
	checkNoAuto(t, e, 9, api.ErrMany)
	if glush.Word(e, nil) || glush.Word(e, []int{1}) {
		t.Error("Word: true")
	}
	if got := glush.Positions(e, 7); got < 0 || got > 8 {
		t.Errorf("Positions: %d", got)
	}
}

// TestP1Shared: lists that stand in many places are not gone over once for each.
func TestP1Shared(t *testing.T) {
	some, no := sym(1), empty()
	for range 150 {
		some, no = seq(some, some), alt(no, no, no)
	}
	if got := glush.Positions(some, 1<<20); got != 1<<20+1 {
		t.Errorf("Positions: %d", got)
	}
	if got := glush.Positions(no, 9); got != 0 {
		t.Errorf("Positions: %d", got)
	}
	for _, e := range []glush.Expr{some, no, with(sym(1), some), seq(no, some)} {
		if err := glush.Check(e); err != api.ErrMany {
			t.Errorf("Check: %v", err)
		}
	}
	// Pieces of one list are several expressions' kids.
	l := []glush.Expr{{}, {}, {}, sym(1)}
	l[2], l[1] = seq(l[3:]...), seq(l[2:]...)
	l[0] = rep(0, -1, alt(l[1:]...))
	e := seq(l...)
	if got := glush.Positions(e, 100); got != 8 {
		t.Errorf("Positions: %d", got)
	}
	checkRules(t, e)
	checkWords(t, e, wordsOf(6, 2)[:40])
}

// TestP1Circles: what stands in itself is too deep, and every call ends.
func TestP1Circles(t *testing.T) {
	for _, kind := range []int{glush.Empty, glush.Sym, glush.Seq, glush.Alt, glush.Rep, glush.None, 0, 9} {
		l := []glush.Expr{sym(1), {}, {}}
		l[1] = glush.Expr{Kind: kind, Min: 1, Max: 2, Kids: l}
		l[2] = glush.Expr{Kind: kind, Min: 1, Max: -1, Kids: l[1:]}
		one := []glush.Expr{{Kind: kind, Min: 1, Max: 2}}
		one[0].Kids = one
		for _, e := range []glush.Expr{l[1], l[2], one[0], seq(l...), seq(seq(l...), alt(one...))} {
			checkRefused(t, e)
		}
	}
}
