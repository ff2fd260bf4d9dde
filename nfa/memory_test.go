package nfa_test

import (
	"math"
	"reflect"
	"runtime/debug"
	"slices"
	"strings"
	"sync"
	"testing"

	"rubric/api"
	"rubric/nfa"
	"rubric/pat"
	"rubric/set"
)

func empty() pat.Node               { return pat.Node{Kind: pat.Empty} }
func seq(l ...pat.Node) pat.Node    { return pat.Node{Kind: pat.Seq, Kids: l} }
func alt(l ...pat.Node) pat.Node    { return pat.Node{Kind: pat.Alt, Kids: l} }
func symOf(l ...set.Range) pat.Node { return pat.Node{Kind: pat.Sym, Set: set.Of(l...)} }
func sym(r rune) pat.Node           { return symOf(set.Range{Lo: r, Hi: r}) }
func rep(a, b int, n pat.Node) pat.Node {
	return pat.Node{Kind: pat.Rep, Min: a, Max: b, Kids: []pat.Node{n}}
}

// roomy answers the same tree, with spare room behind all its lists.
func roomy(n pat.Node) pat.Node {
	s := make(set.Set, len(n.Set)+2)
	copy(s, n.Set)
	s[len(n.Set)] = set.Range{Lo: 77, Hi: 78}
	l := make([]pat.Node, len(n.Kids)+2)
	for i, k := range n.Kids {
		l[i] = roomy(k)
	}
	l[len(n.Kids)] = sym('z')
	n.Set, n.Kids = s[:len(n.Set)], l[:len(n.Kids)]
	return n
}

// whole answers the same tree with its spare room in its lists.
func whole(n pat.Node) pat.Node {
	n.Set, n.Kids = slices.Clone(n.Set[:cap(n.Set)]), slices.Clone(n.Kids[:cap(n.Kids)])
	for i := range n.Kids {
		n.Kids[i] = whole(n.Kids[i])
	}
	return n
}

func memoryPatterns() []string {
	out := []string{"", "a", "ab", "a|b|", "a*", "(a|b)*a", "a{100}", "((a{2,3}){2}b?)+", "[a-c-[b]]\\d", strings.Repeat("a?", 200)}
	d := dice(5)
	for range 200 {
		out = append(out, d.pattern(3))
	}
	return out
}

// TestP2NothingIsChanged: no Match turns a tree or its lists' spare room.
func TestP2NothingIsChanged(t *testing.T) {
	for _, p := range memoryPatterns() {
		n := roomy(parsed(t, p))
		want := whole(n)
		for _, s := range texts(3, "a", "b") {
			if nfa.Match(n, s) != nfa.Match(parsed(t, p), s) {
				t.Errorf("%q: %q: spare room counts", p, s)
			}
		}
		if !reflect.DeepEqual(whole(n), want) {
			t.Errorf("%q was changed", p)
		}
	}
}

// TestP2NoListIsAnEmptyOne: a list handed in may be nil or empty.
func TestP2NoListIsAnEmptyOne(t *testing.T) {
	for _, kind := range []int{pat.Empty, pat.Sym, pat.Seq, pat.Alt, pat.Rep} {
		a := pat.Node{Kind: kind, Max: 3}
		b := pat.Node{Kind: kind, Max: 3, Set: set.Set{}, Kids: []pat.Node{}}
		for _, s := range []string{"", "a"} {
			if nfa.Match(a, s) != nfa.Match(b, s) {
				t.Errorf("kind %d: %q", kind, s)
			}
		}
	}
}

// TestP3SameAnswers: what a matcher was asked ahead turns nothing, nor what other
// matchers are asked; each is one's own.
func TestP3SameAnswers(t *testing.T) {
	words := texts(4, "a", "b")
	for _, p := range memoryPatterns() {
		if pat.Positions(parsed(t, p), api.MaxPos) > api.MaxPos {
			continue
		}
		one, two := compiled(t, p), compiled(t, p)
		if one.m == two.m {
			t.Fatalf("%q: one matcher for two", p)
		}
		var want []bool
		for _, s := range words {
			want = append(want, one.m.Match(s))
			nfa.Compile("(", 5)
			one.m.Match("aaaaaaaa\xff")
		}
		for i, s := range slices.Backward(words) {
			one.check(t, s, want[i])
			two.check(t, s, want[i])
		}
	}
}

// TestP3AtOnce: a matcher keeps nothing from one text to the next, not even while
// it goes over several.
func TestP3AtOnce(t *testing.T) {
	b := compiled(t, "((a|ab)(c|bcd)?){2,}|x*")
	words := texts(5, "a", "b", "c")
	var want []bool
	for _, s := range words {
		want = append(want, nfa.Match(b.n, s))
	}
	var crew sync.WaitGroup
	for range 4 {
		crew.Go(func() {
			for i, s := range words {
				if b.m.Match(s) != want[i] {
					t.Errorf("%q", s)
				}
			}
		})
	}
	crew.Wait()
}

// TestP1MatchOfManyPositions: Match by the tree is no matter of positions.
func TestP1MatchOfManyPositions(t *testing.T) {
	nest := func(s, times string, depth int) pat.Node {
		return parsed(t, strings.Repeat("(", depth)+s+strings.Repeat(")"+times, depth))
	}
	text := strings.Repeat("a", 5000)
	for _, c := range []struct {
		n  pat.Node
		is func(n int) bool
	}{
		{parsed(t, "a{1000}"), func(n int) bool { return n == 1000 }},
		{parsed(t, "(a{900}){5}"), func(n int) bool { return n == 4500 }},
		{parsed(t, strings.Repeat("a", api.MaxToken)), func(n int) bool { return n == api.MaxToken }},
		{parsed(t, strings.Repeat("a?", api.MaxToken/2)), func(n int) bool { return n <= api.MaxToken/2 }},
		{parsed(t, "a{1000}a{1000,}"), func(n int) bool { return n >= 2000 }},
		{parsed(t, "(a?){1000}a{1000}"), func(n int) bool { return n >= 1000 && n <= 2000 }},
		{parsed(t, "((a{500,501}){3,4})?b?"), func(n int) bool { return n == 0 || n >= 1500 && n <= 1503 || n >= 2000 && n <= 2004 }},
		{nest("a", "{1000}", 40), func(n int) bool { return false }},
		{nest("a", "{0,1000}", 40), func(n int) bool { return true }},
		{nest("a?", "{1000}", 40), func(n int) bool { return true }},
		{nest("a", "{1,2}", 40), func(n int) bool { return n >= 1 }},
		{nest("a|aa", "{2}", 10), func(n int) bool { return n >= 1024 && n <= 2048 }},
		{nest("a|aa", "{2}", 40), func(n int) bool { return false }},
		{nest("a*", "*", 40), func(n int) bool { return true }},
		{nest("aa", "+", 40), func(n int) bool { return n >= 2 && n%2 == 0 }},
		{nest("a{2}|b", "{7,11}", 3), func(n int) bool { return n%2 == 0 && n >= 686 && n <= 2662 }},
	} {
		for _, n := range []int{0, 1, 2, 999, 1000, 1001, 1023, 1024, 1500, 1504, 1999, 2000, 2004, 2005, 2047, 2048, 2049, 4095, 4096, 4499, 4500, 4501, 5000} {
			if got := nfa.Match(c.n, text[:n]); got != c.is(n) {
				t.Errorf("%d letters: %v", n, got)
			}
		}
	}
}

// TestP1LongTexts: no text is too long, and many positions at once are not too many.
func TestP1LongTexts(t *testing.T) {
	text := strings.Repeat("ab", api.MaxText/2)
	for p, want := range map[string]bool{
		"(ab)*": true, "(ab)*b": false, "(a|b)*": true, ".*a.*b.*": true, "(a?b?)*": true, "([ab]{3})*": false, "([ab]{4})*": true,
		"((a?b?){256})*": true, "(" + strings.Repeat("a|", 255) + strings.Repeat("b|", 256) + "a)*": true, "(((a|b){1,3}){2,5})+": true,
	} {
		compiled(t, p).check(t, text, want)
	}
}

// TestP1TimesInAlternatives: Reps of alternatives within one another, which ask
// for one another from more places than can be kept as sets.
func TestP1TimesInAlternatives(t *testing.T) {
	n := parsed(t, strings.Repeat("(a{2}|b{3}|", 38)+"a"+strings.Repeat("){7,11}", 38))
	for _, s := range []string{strings.Repeat("a", 300), strings.Repeat("aabbb", 60)} {
		if !nfa.Match(n, s) || nfa.Match(n, s+"b") || nfa.Match(n, "bb"+s) {
			t.Errorf("%.20q", s)
		}
	}
}

// TestP8WhatMayNotBe: every call ends without a panic.
func TestP8WhatMayNotBe(t *testing.T) {
	a := sym('a')
	wrong := set.Set{{Lo: 99, Hi: 90}, {Lo: 5, Hi: 200}, {Lo: -7, Hi: math.MaxInt32}}
	for _, n := range []pat.Node{
		{}, {Kind: -1, Kids: []pat.Node{a}}, {Kind: 99, Set: a.Set}, {Kind: pat.Sym}, {Kind: pat.Sym, Set: wrong}, {Kind: pat.Sym, Set: a.Set, Kids: []pat.Node{a, a}}, {Kind: pat.Empty, Kids: []pat.Node{a}},
		seq(), alt(), seq(alt()), alt(seq()),
		{Kind: pat.Rep}, {Kind: pat.Rep, Min: 1, Max: -1}, {Kind: pat.Rep, Max: 2, Kids: []pat.Node{a, a}},
		rep(-5, -1, a), rep(-5, 2, a), rep(5, 2, a), rep(0, -2, a), rep(math.MinInt, math.MinInt, a), rep(math.MaxInt, math.MaxInt, a), rep(math.MaxInt, -1, a), rep(0, math.MaxInt, a), rep(math.MaxInt, math.MaxInt, empty()), rep(0, math.MaxInt, rep(0, math.MaxInt, rep(0, math.MaxInt, a))), rep(math.MinInt, math.MaxInt, alt()),
	} {
		for _, m := range []pat.Node{n, seq(n, a), alt(n, a), rep(2, 3, n), rep(0, -1, seq(n, n))} {
			for _, s := range []string{"", "a", "aa", strings.Repeat("a", 100), "\xff"} {
				nfa.Match(m, s)
			}
		}
	}
	var m nfa.Matcher
	m.Match("")
	m.Match("a")
	m.Positions()
}

// TestP1Deep: trees made by hand may be deeper than Go's stack can grow.
func TestP1Deep(t *testing.T) {
	defer debug.SetMaxStack(debug.SetMaxStack(8 << 20))
	for _, depth := range []int{100, 4000, 4098, 4099, 300000} {
		n := sym('a')
		for i := range depth - 1 {
			n = []pat.Node{seq(n), alt(n), rep(0, -1, n), rep(1, 1, n), rep(1, 2, n)}[i%5]
		}
		nfa.Match(n, "aaaaaa")
	}
}

// TestP1Shared: lists that stand in many places of a tree, or in themselves.
func TestP1Shared(t *testing.T) {
	many := sym('a')
	for range 70 {
		many = seq(many, many)
	}
	nfa.Match(many, "aaaa")
	for _, kind := range []int{pat.Seq, pat.Alt, pat.Rep, pat.Sym, pat.Empty} {
		l := []pat.Node{sym('a'), {}, {}}
		l[1] = pat.Node{Kind: kind, Min: 1, Max: 2, Kids: l}
		l[2] = pat.Node{Kind: kind, Min: 1, Max: -1, Kids: l[1:]}
		for _, n := range append([]pat.Node{seq(l...), alt(l...)}, l...) {
			nfa.Match(n, "aaaa")
		}
	}
}
