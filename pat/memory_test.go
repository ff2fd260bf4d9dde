package pat_test

import (
	"slices"
	"testing"

	"rubric/pat"
	"rubric/set"
)

// clone answers a tree that shares nothing with n.
func clone(n pat.Node) pat.Node {
	n.Set = slices.Clone(n.Set)
	n.Kids = slices.Clone(n.Kids)
	for i := range n.Kids {
		n.Kids[i] = clone(n.Kids[i])
	}
	return n
}

// spoilers answers a function for each list of a tree, which writes over all of it
// and its spare room, and one that puts it back.
func spoilers(n pat.Node) (out []func() (back func())) {
	out = append(out, func() func() {
		room := n.Set[:cap(n.Set)]
		old := slices.Clone(room)
		for i := range room {
			room[i] = set.Range{Lo: 99, Hi: -99}
		}
		return func() { copy(room, old) }
	}, func() func() {
		room := n.Kids[:cap(n.Kids)]
		old := slices.Clone(room)
		for i := range room {
			room[i] = pat.Node{Kind: 77}
		}
		return func() { copy(room, old) }
	})
	for _, k := range n.Kids {
		out = append(out, spoilers(k)...)
	}
	return out
}

func memoryPatterns() []string {
	out := []string{"", "a", "ab", "abc", "a|b|c", "(a)(b)", "((ab|c)*d){2,3}|", ".", "..", "\\d\\d", "[a-c-[b]][a-c-[b]]", "\\p{L}\\P{L}\\p{L}", "\\i\\I\\w\\W", "[^a][^a]", "[a]|[b]|[-a]"}
	d := dice(5)
	for range 200 {
		s, _ := d.pattern(3)
		out = append(out, s)
	}
	return out
}

// TestP2AnswersAreNew: to write over an answer and its spare room turns no other
// answer, nor what the same call answers next.
func TestP2AnswersAreNew(t *testing.T) {
	for _, s := range memoryPatterns() {
		first, second := parsed(t, s), parsed(t, s)
		want := clone(first)
		for _, spoil := range spoilers(first) {
			spoil()
		}
		if !same(second, want) || !same(parsed(t, s), want) {
			t.Errorf("%q: memory is shared", s)
		}
	}
}

// TestP2NoTwoListsShare: to write over one list of an answer turns none that
// stands beside it or in it.
func TestP2NoTwoListsShare(t *testing.T) {
	for _, s := range memoryPatterns() {
		n := parsed(t, s)
		l := lists(n)
		for i, spoil := range spoilers(n) {
			before := told(l, i)
			back := spoil()
			if !slices.Equal(told(l, i), before) {
				t.Fatalf("%q: list %d shares memory", s, i)
			}
			back()
		}
	}
}

// lists answers the lists of a tree in the order of its spoilers, each as what
// tells what is in it and its spare room, but for what its elements hold in lists
// of their own.
func lists(n pat.Node) (out []func() string) {
	out = append(out, func() string {
		return tell(pat.Node{Kind: pat.Sym, Set: n.Set[:cap(n.Set)]})
	}, func() string {
		var l []pat.Node
		for _, k := range n.Kids[:cap(n.Kids)] {
			l = append(l, pat.Node{Kind: pat.Rep, Min: k.Kind, Max: len(k.Kids)})
		}
		return tell(seq(l...))
	})
	for _, k := range n.Kids {
		out = append(out, lists(k)...)
	}
	return out
}

// told tells all lists but one.
func told(l []func() string, but int) []string {
	var out []string
	for i, f := range l {
		if i != but {
			out = append(out, f())
		}
	}
	return out
}

// TestP2NothingIsChanged: neither count turns the tree, nor its lists' spare room.
func TestP2NothingIsChanged(t *testing.T) {
	for _, s := range memoryPatterns() {
		n := parsed(t, s)
		n.Kids = append(n.Kids, seq(sym("x")))[:len(n.Kids)]
		want, spare := clone(n), tell(n.Kids[:len(n.Kids)+1][len(n.Kids)])
		a, b := pat.Positions(n, 100), pat.Deep(n)
		if !same(n, want) || tell(n.Kids[:len(n.Kids)+1][len(n.Kids)]) != spare {
			t.Errorf("%q was changed", s)
		}
		if pat.Positions(n, 100) != a || pat.Deep(n) != b {
			t.Errorf("%q: the same calls answer otherwise", s)
		}
	}
}

// TestP2NoListIsAnEmptyOne: a list handed in may be nil or empty.
func TestP2NoListIsAnEmptyOne(t *testing.T) {
	for _, kind := range []int{pat.Empty, pat.Sym, pat.Seq, pat.Alt, pat.Rep} {
		a := pat.Node{Kind: kind, Max: 3}
		b := pat.Node{Kind: kind, Max: 3, Set: set.Set{}, Kids: []pat.Node{}}
		if pat.Positions(a, 9) != pat.Positions(b, 9) || pat.Deep(a) != pat.Deep(b) {
			t.Errorf("kind %d", kind)
		}
	}
}

// TestP3SameAnswers: what was parsed ahead, or was at fault, turns nothing.
func TestP3SameAnswers(t *testing.T) {
	for _, s := range memoryPatterns() {
		want := parsed(t, s)
		for _, wrong := range []string{"(", "[b-a]", "\\p{Lt}", "(((((a{2,1}", "\xff"} {
			pat.Parse(wrong)
		}
		checkTree(t, s, want)
	}
}
