package auto

import (
	"rubric/api"
	"rubric/term"
)

// all is the rule of an All: each kid may be met once, in any order.
type all struct {
	kids  []term.Term
	maybe bool // whether none of them need be met
}

// allOf answers the rule of an All that Check takes: its kids are its leaves.
func allOf(kids []term.Term, maybe bool, most int) (rule, api.Errno) {
	if len(kids) > min(most, api.MaxPos) {
		return nil, api.ErrMany
	}
	return &all{kids: kids, maybe: maybe}, api.OK
}

// met answers of each kid whether it was met.
func (a *all) met(s State) []bool {
	met := make([]bool, len(a.kids))
	for _, i := range s.Seen {
		if i >= 0 && i < len(met) {
			met[i] = true
		}
	}
	return met
}

func (a *all) next(s State) []int {
	var l []int
	for i, met := range a.met(s) {
		if !met && a.kids[i].Max > 0 {
			l = append(l, i)
		}
	}
	return l
}

func (a *all) step(s State, leaf int) State {
	var to State
	for i, met := range a.met(s) {
		if met || i == leaf {
			to.Seen = append(to.Seen, i)
		}
	}
	return to
}

func (a *all) ends(s State) bool {
	if a.maybe && len(s.Seen) == 0 {
		return true
	}
	for i, met := range a.met(s) {
		if !met && a.kids[i].Min > 0 {
			return false
		}
	}
	return true
}

func (a *all) size() int { return len(a.kids) }
