package pat_test

import (
	"math"
	"math/big"
	"runtime/debug"
	"testing"

	"rubric/api"
	"rubric/pat"
)

// count says by recursion and numbers without a bound how many Syms there are.
func count(n pat.Node) *big.Int {
	sum := new(big.Int)
	for _, k := range n.Kids {
		sum.Add(sum, count(k))
	}
	switch n.Kind {
	case pat.Sym:
		return big.NewInt(1)
	case pat.Rep:
		times := n.Max
		if times == -1 {
			times = max(n.Min, 1)
		}
		return sum.Mul(sum, big.NewInt(int64(times)))
	}
	return sum
}

// deep says by recursion how deep a tree is.
func deep(n pat.Node) int {
	most := 0
	for _, k := range n.Kids {
		most = max(most, deep(k))
	}
	return 1 + most
}

func checkCounts(t *testing.T, n pat.Node, most int) {
	t.Helper()
	want := most + 1
	if c := count(n); c.Cmp(big.NewInt(int64(want))) < 0 {
		want = int(c.Int64())
	}
	if got := pat.Positions(n, most); got != want {
		t.Errorf("Positions(%s, %d): %d; want %d", tell(n), most, got, want)
	}
	if got := pat.Deep(n); got != deep(n) {
		t.Errorf("Deep(%s): %d; want %d", tell(n), got, deep(n))
	}
}

func parsed(t *testing.T, s string) pat.Node {
	t.Helper()
	n, at, err := pat.Parse(s)
	if err != api.OK {
		t.Fatalf("%q: %d, %v", s, at, err)
	}
	return n
}

func TestP802Positions(t *testing.T) {
	for s, want := range map[string]int{
		"": 0, "()": 0, "|": 0, "()*": 0, "(){1000}": 0,
		"a": 1, ".": 1, "[abc]": 1, "[a-[a]]": 1, "\\d": 1,
		"ab": 2, "a|b": 2, "a|": 1, "ab|cde": 5, "(ab)(c|d)": 4,
		"a?": 1, "a*": 1, "a+": 1, "(ab)*": 2, "(a|b)+c": 3,
		"a{0}": 0, "a{0,0}": 0, "a{1}": 1, "a{7}": 7, "a{0,7}": 7, "a{3,7}": 7, "a{0,}": 1, "a{1,}": 1, "a{2,}": 2, "a{7,}": 7,
		"(ab){3}": 6, "(a{2}b){3}": 9, "(a{2,}){3}": 6, "((a{2}){3}){4}": 24, "(a{1000}){1000}": 1000000, "(a{5}){0}b": 1, "a{0}b{2}": 2,
		"a{1000}b{1000}": 2000, "(a{1000}){1000}b{1000}": 1001000,
	} {
		n := parsed(t, s)
		for _, most := range []int{0, 1, 2, 3, want - 1, want, want + 1, api.MaxPos, 1 << 20} {
			if most < 0 {
				continue
			}
			if got := pat.Positions(n, most); got != min(want, most+1) {
				t.Errorf("%q, %d: %d; want %d", s, most, got, min(want, most+1))
			}
		}
	}
}

// TestP802PositionsCut: no sum and no product is too great.
func TestP802PositionsCut(t *testing.T) {
	n := parsed(t, "(((((((((((((a{1000}){1000}){1000}){1000}){1000}){1000}){1000}){1000}){1000}){1000}){1000}){1000}){1000}){1000}")
	for _, most := range []int{0, 1, 999, 1000, api.MaxPos, 1<<20 - 1, 1 << 20} {
		if got := pat.Positions(n, most); got != most+1 {
			t.Errorf("%d: %d", most, got)
		}
		if got := pat.Positions(seq(n, n, rep(2, -1, n), alt(n, n)), most); got != most+1 {
			t.Errorf("%d: %d", most, got)
		}
		// What is cut is gone, if it stands no times.
		if got := pat.Positions(seq(rep(0, 0, n), rep(0, 0, sym("a"))), most); got != 0 {
			t.Errorf("%d: %d", most, got)
		}
	}
	for _, times := range []int{math.MaxInt, math.MaxInt / 2, 1 << 62, 1 << 32, 1<<20 + 1} {
		for _, k := range []pat.Node{rep(0, times, n), rep(times, -1, n), rep(0, times, seq(sym("a"), sym("a"))), rep(times, -1, rep(times, times, sym("a")))} {
			if got := pat.Positions(k, 1<<20); got != 1<<20+1 {
				t.Errorf("%d times: %d", times, got)
			}
		}
	}
}

func TestP802Deep(t *testing.T) {
	for s, want := range map[string]int{
		"": 1, "a": 1, "()": 1, "((((a))))": 1, "[a-[b-[c]]]": 1,
		"ab": 2, "a|b": 2, "a*": 2, "|": 2, "a{0}": 2, "()*": 2,
		"ab|c": 3, "c|ab": 3, "(a|b)c": 3, "c(a|b)": 3, "ab*": 3, "(ab)*": 3, "(a*)*": 3,
		"a(b(c(d)))": 4, "a(b(cd))": 4, "((((a*)*)*)*)*": 6, "ab*|(c{2,3})+|": 4, "a|(b|(c|(d|e)*))": 6,
	} {
		if got := pat.Deep(parsed(t, s)); got != want {
			t.Errorf("%q: %d; want %d", s, got, want)
		}
	}
}

// TestP802CountsOfWrittenPatterns holds both against the promise said by
// recursion.
func TestP802CountsOfWrittenPatterns(t *testing.T) {
	d := dice(3)
	for range 20000 {
		_, n := d.pattern(4)
		checkCounts(t, n, []int{0, 1, 5, 100, api.MaxPos, 5000, 1 << 20}[d.throw(7)])
	}
}

// TestP802CountsOfTreesByHand: trees that Parse never tells are counted all the
// same.
func TestP802CountsOfTreesByHand(t *testing.T) {
	a := sym("a")
	for _, n := range []pat.Node{seq(), alt(), seq(a), alt(a), seq(seq(seq(a))), alt(seq(), alt()), rep(5, 5000, a), rep(3, -1, seq()), {Kind: pat.Rep, Min: 1, Max: 3}} {
		for _, most := range []int{0, 1, 100, 1 << 20} {
			checkCounts(t, n, most)
		}
	}
}

// TestP8WhatMayNotBe: every call ends without a panic.
func TestP8WhatMayNotBe(t *testing.T) {
	a := sym("a")
	trees := []pat.Node{{}, {Kind: -1, Kids: []pat.Node{a}}, {Kind: 99, Kids: []pat.Node{a}}, {Kind: pat.Sym, Kids: []pat.Node{a, a}}, {Kind: pat.Empty, Kids: []pat.Node{a}}, {Kind: pat.Rep, Max: -1}, rep(-5, -1, a), rep(5, 2, a), rep(0, -2, a), rep(0, math.MinInt, a), {Kind: pat.Rep, Max: 2, Kids: []pat.Node{a, a}}}
	for _, n := range trees {
		for _, most := range []int{math.MinInt, -2, -1, 0, 7, 1 << 20, 1<<20 + 1, math.MaxInt - 1, math.MaxInt} {
			if got := pat.Positions(n, most); got < 0 {
				t.Errorf("Positions(%s, %d): %d", tell(n), most, got)
			}
		}
		pat.Deep(n)
	}
}

// TestP1Deep: no tree is too deep, though a stack of calls would be.
func TestP1Deep(t *testing.T) {
	defer debug.SetMaxStack(debug.SetMaxStack(8 << 20))
	const depth = 300000
	n := sym("a")
	for i := range depth - 1 {
		n = []pat.Node{seq(n), alt(n), rep(0, -1, n), rep(1, 1, n), seq(n, sym("b"))}[i%5]
	}
	if got := pat.Deep(n); got != depth {
		t.Errorf("Deep: %d", got)
	}
	if got, want := pat.Positions(n, 1<<20), 1+(depth-1)/5; got != want {
		t.Errorf("Positions: %d; want %d", got, want)
	}
}

// TestP1Shared: lists that stand in many places of a tree are not gone over once
// for each.
func TestP1Shared(t *testing.T) {
	many, none := sym("a"), empty()
	for range 70 {
		many, none = seq(many, many), alt(none, none, none)
	}
	if got := pat.Deep(many); got != 71 {
		t.Errorf("Deep: %d", got)
	}
	if got := pat.Positions(many, 1<<20); got != 1<<20+1 {
		t.Errorf("Positions: %d", got)
	}
	if got := pat.Positions(none, 5); got != 0 || pat.Deep(none) != 71 {
		t.Errorf("Positions: %d", got)
	}
	// Pieces of one list are several nodes' Kids.
	l := []pat.Node{{}, {}, {}, sym("a")}
	l[2], l[1] = seq(l[3:]...), seq(l[2:]...)
	l[0] = seq(l[1:]...)
	checkCounts(t, seq(l...), 100)
	if got := pat.Positions(seq(l...), 100); got != 8 {
		t.Errorf("Positions: %d", got)
	}
}

// TestP1Circles: what stands in itself is no tree, but every call ends.
func TestP1Circles(t *testing.T) {
	for _, kind := range []int{pat.Seq, pat.Alt, pat.Rep} {
		l := []pat.Node{sym("a"), {}, {}}
		l[1] = pat.Node{Kind: kind, Min: 1, Max: 2, Kids: l}
		l[2] = pat.Node{Kind: kind, Min: 1, Max: -1, Kids: l[1:]}
		for _, n := range append([]pat.Node{seq(l...), seq(seq(l...), alt(l...))}, l...) {
			if got := pat.Positions(n, 7); got < 0 || got > 8 {
				t.Errorf("Positions: %d", got)
			}
			pat.Deep(n)
		}
	}
}
