package glush

import (
	"slices"

	"rubric/nums"
)

// Step answers the positions that sym may stand at, behind one of from; from nil,
// at the beginning. Of none it answers an empty list, as nil is the beginning.
func (a Auto) Step(from []int, sym int) []int {
	var next nums.Set
	if from == nil {
		a.take(&next, a.First, sym)
	}
	for _, p := range from {
		a.take(&next, a.behind(p), sym)
	}
	return next.List()
}

// take puts those of list that are positions of sym into next.
func (a Auto) take(next *nums.Set, list []int, sym int) {
	for _, p := range list {
		if a.is(p) && a.Syms[p] == sym {
			next.Add(p)
		}
	}
}

// is answers whether there is such a position.
func (a Auto) is(p int) bool { return p >= 0 && p < len(a.Syms) }

// behind answers the positions that may follow p.
func (a Auto) behind(p int) []int {
	if p < 0 || p >= len(a.Follow) {
		return nil
	}
	return a.Follow[p]
}

// Ends answers whether a word may end at one of at; at nil, at the beginning.
func (a Auto) Ends(at []int) bool {
	if at == nil {
		return a.Nullable
	}
	return slices.ContainsFunc(at, func(p int) bool { return slices.Contains(a.Last, p) })
}

// Word answers whether the automaton takes w.
func (a Auto) Word(w []int) bool {
	var at []int
	for _, sym := range w {
		at = a.Step(at, sym)
		if len(at) == 0 {
			return false
		}
	}
	return a.Ends(at)
}

// Live answers whether the automaton takes any word at all.
func (a Auto) Live() bool {
	var met nums.Set
	for open := slices.Clone(a.First); len(open) > 0; {
		p := open[len(open)-1]
		open = open[:len(open)-1]
		if a.is(p) && !met.Has(p) {
			met.Add(p)
			open = append(open, a.behind(p)...)
		}
	}
	return a.Nullable || a.Ends(met.List())
}
