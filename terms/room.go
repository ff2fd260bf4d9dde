package terms

import (
	"slices"

	"rubric/term"
)

// Roomy answers the same term as new memory, with spare room behind all its lists
// that is filled, so that it can be seen whether it is looked at or changed.
func Roomy(t term.Term) term.Term {
	if len(t.W.Spaces) > 0 {
		t.W.Spaces = append(slices.Grow(slices.Clone(t.W.Spaces), 2), "x", "y")[:len(t.W.Spaces)]
	}
	l := make([]term.Term, len(t.Kids), len(t.Kids)+2)
	for i, k := range t.Kids {
		l[i] = Roomy(k)
	}
	l[:cap(l)][len(l)], l[:cap(l)][len(l)+1] = Elem("spare"), Empty()
	t.Kids = l
	return t
}

// SameRoom answers whether both are the same, their spare room too.
func SameRoom(a, b term.Term) bool {
	x, y := a.Kids[:cap(a.Kids)], b.Kids[:cap(b.Kids)]
	if !slices.EqualFunc(x[len(a.Kids):], y[len(b.Kids):], Same) || !slices.EqualFunc(a.Kids, b.Kids, SameRoom) {
		return false
	}
	s, r := a.W.Spaces, b.W.Spaces
	return Same(a, b) && slices.Equal(s[:cap(s)], r[:cap(r)])
}

// Spoil writes all over a term's lists and their spare room.
func Spoil(t term.Term) {
	for i := range t.W.Spaces[:cap(t.W.Spaces)] {
		t.W.Spaces[:cap(t.W.Spaces)][i] = "spoilt"
	}
	for i := range t.Kids[:cap(t.Kids)] {
		Spoil(t.Kids[:cap(t.Kids)][i])
		t.Kids[:cap(t.Kids)][i] = Elem("spoilt")
	}
}
