package auto

import (
	"strconv"

	"rubric/api"
	"rubric/nums"
	"rubric/term"
)

// mostStates is how many states are come to, to see what names belong to.
const mostStates = 2048

// Whose a name is, if it is not just one leaf's.
const (
	nobody  = -1
	several = -2
)

// attribution goes from state to state, as long as each name belongs to one leaf.
type attribution struct {
	rows  *rows
	names int                 // how many names are tried
	hits  []nums.Set          // by leaves: the numbers of the names that hit it
	met   map[string]struct{} // by their positions' text
	open  []State
}

// attribute answers whether each name belongs to one leaf, whatever follows: ErrNot,
// if one does not; ErrMany, if there are too many states to tell.
func attribute(r *rows, leaves []term.Term) api.Errno {
	names := term.Names(leaves...)
	a := attribution{rows: r, names: len(names), met: map[string]struct{}{}}
	for i, leaf := range leaves {
		a.hits = append(a.hits, nums.Set{})
		if r.of[i].Empty() {
			continue
		}
		for j, n := range names {
			if term.Hits(leaf, n) {
				a.hits[i].Add(j)
			}
		}
	}
	a.come(State{})
	for len(a.open) > 0 {
		s := a.open[0]
		a.open = a.open[1:]
		if err := a.leave(s); err != api.OK {
			return err
		}
	}
	return api.OK
}

// leave goes from s by each name, rising.
func (a *attribution) leave(s State) api.Errno {
	behind := a.rows.behind(s)
	var gone nums.Set
	for _, leaf := range a.owners(a.rows.leaves(behind)) {
		if leaf == several {
			return api.ErrNot
		}
		if leaf == nobody || gone.Has(leaf) {
			continue
		}
		gone.Add(leaf)
		if !a.come(a.rows.at(behind, leaf)) {
			return api.ErrMany
		}
	}
	return api.OK
}

// owners answers of each name which of some leaves it belongs to.
func (a *attribution) owners(leaves []int) []int {
	owners := make([]int, a.names)
	for n := range owners {
		owners[n] = nobody
	}
	for _, leaf := range leaves {
		for n := range a.hits[leaf].Each {
			if owners[n] == nobody {
				owners[n] = leaf
			} else {
				owners[n] = several
			}
		}
	}
	return owners
}

// come opens a state that was not met yet; false, if it is one too many.
func (a *attribution) come(s State) bool {
	key := text(s.Pos)
	if _, known := a.met[key]; known {
		return true
	}
	if len(a.met) == mostStates {
		return false
	}
	a.met[key] = struct{}{}
	a.open = append(a.open, s)
	return true
}

// text answers positions as a map's key.
func text(l []int) string {
	var b []byte
	for _, p := range l {
		b = append(strconv.AppendInt(b, int64(p), 10), ' ')
	}
	return string(b)
}
