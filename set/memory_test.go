package set_test

import (
	"math"
	"slices"
	"testing"

	"rubric/set"
)

// roomy is a set in the midst of a greater row, and a look whether all of that is
// as it was.
func roomy(l []set.Range) (set.Set, func() bool) {
	row := append([]set.Range{rg(77, 78)}, l...)
	row = append(row, rg(1, 2), rg(3, 4), rg(5, 6))
	before := slices.Clone(row)
	s := set.Set(row[1 : len(l)+1])
	return s, func() bool { return slices.Equal(row, before) && len(s) == len(l) }
}

// spoil writes over a set and its spare room.
func spoil(s set.Set) {
	for i := range s[:cap(s)] {
		s[:cap(s)][i] = rg(99, -99)
	}
}

// answers is every call's answer of a and b that is a set.
func answers(a, b set.Set) []set.Set {
	out := []set.Set{set.Of(a...), set.Of(b...), a.Not(), b.Not(), set.Union(a, b), set.Both(a, b), set.Minus(a, b)}
	for _, c := range []byte("sicdwSICDW") {
		s, _ := set.Escape(c)
		out = append(out, s)
	}
	for _, name := range []string{"Lu", "Ll", "L", "Nd", "N", "P", "S", "Z", "C"} {
		s, _ := set.Category(name)
		out = append(out, s)
	}
	return out
}

func rightSets() []set.Set {
	return []set.Set{nil, {}, {rg(0, all-1)}, {rg('a', 'e')}, {rg('a', 'a'), rg('c', 'c'), rg('e', 'z')}, {rg(0, 5), rg('c', 'd'), rg(all-3, all-1)}}
}

// wrongSets are lists of ranges that are no sets.
func wrongSets() []set.Set {
	out := []set.Set{{rg(5, 6), rg(1, 2)}, {rg(1, 2), rg(3, 4)}, {rg(1, 9), rg(2, 3), rg(2, 3)}}
	for _, lo := range []rune{math.MinInt32, math.MinInt32 + 1, -1, 0, 7, all - 1, all, math.MaxInt32 - 1, math.MaxInt32} {
		for _, hi := range []rune{math.MinInt32, -1, 0, 3, all, math.MaxInt32 - 1, math.MaxInt32} {
			out = append(out, set.Set{rg(lo, hi)}, set.Set{rg(lo, hi), rg(2, 4)}, set.Set{rg(2, 4), rg(lo, hi), rg(6, 7)})
		}
	}
	return out
}

// TestP2NothingIsChangedOrShared: to write all over the answers turns neither what
// was handed in, nor another answer, nor what the same calls answer next.
func TestP2NothingIsChangedOrShared(t *testing.T) {
	for _, x := range rightSets() {
		for _, y := range rightSets() {
			a, aRight := roomy(x)
			b, bRight := roomy(y)
			_, _, _, _ = a.Right(), a.Has('c'), a.Size(), set.Same(a, b)
			want := answers(x, y)
			got := answers(a, b)
			for i := range got {
				if !slices.Equal(got[i], want[i]) {
					t.Fatalf("answer %d of %v and %v: %v; want %v", i, x, y, got[i], want[i])
				}
				spoil(got[i])
			}
			if !aRight() || !bRight() {
				t.Fatalf("%v or %v was changed", x, y)
			}
			for i, again := range answers(a, b) {
				if !slices.Equal(again, want[i]) {
					t.Fatalf("answer %d of %v and %v: memory is shared", i, x, y)
				}
			}
		}
	}
}

// TestP2HandedInIsNotKept: what was handed in may be written over behind a call.
func TestP2HandedInIsNotKept(t *testing.T) {
	for _, x := range rightSets() {
		a, b := slices.Clone(x), slices.Clone(x)
		got, want := answers(a, b), answers(x, x)
		spoil(a)
		spoil(b)
		for i := range got {
			if !slices.Equal(got[i], want[i]) {
				t.Fatalf("answer %d of %v: what was handed in is kept", i, x)
			}
		}
	}
}

// TestP2OfLeavesItsList: ranges that must be sorted and cut stay as they are.
func TestP2OfLeavesItsList(t *testing.T) {
	l, right := roomy([]set.Range{rg('x', 'z'), rg(-5, 3), rg('b', 'a'), rg('a', 'y'), rg(all-1, all+9)})
	if got := set.Of(l...); !slices.Equal(got, set.Set{rg(0, 3), rg('a', 'z'), rg(all-1, all-1)}) || !right() {
		t.Errorf("Of: %v; its list: %v", got, l)
	}
}

// TestP2OneAndTheSame: both may be one set.
func TestP2OneAndTheSame(t *testing.T) {
	for _, x := range rightSets() {
		s, right := roomy(x)
		if !set.Same(s, s) || !slices.Equal(set.Union(s, s), x) || !slices.Equal(set.Both(s, s), x) || len(set.Minus(s, s)) != 0 || !right() {
			t.Errorf("%v with itself", x)
		}
	}
}

// TestP8WhatIsNotRight: every call ends with some answer that is new memory, and
// changes nothing; a set that is answered is Right nonetheless.
func TestP8WhatIsNotRight(t *testing.T) {
	for _, x := range wrongSets() {
		a, aRight := roomy(x)
		for _, c := range []rune{math.MinInt32, -1, 0, 3, all, math.MaxInt32} {
			a.Has(c)
		}
		_, _ = a.Right(), a.Size()
		for _, y := range append(wrongSets(), rightSets()...) {
			b, bRight := roomy(y)
			set.Same(a, b)
			for i, s := range []set.Set{a.Not(), set.Union(a, b), set.Both(a, b), set.Both(b, a), set.Minus(a, b), set.Minus(b, a)} {
				if !s.Right() {
					t.Fatalf("answer %d of %v and %v: %v", i, x, y, s)
				}
				spoil(s)
			}
			if !aRight() || !bRight() {
				t.Fatalf("%v or %v was changed", x, y)
			}
		}
	}
}
