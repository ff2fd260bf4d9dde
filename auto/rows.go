package auto

import (
	"slices"

	"rubric/api"
	"rubric/glush"
	"rubric/nums"
	"rubric/term"
)

// rows is the rule of a term without an All: it goes by positions, each of which is
// one of a leaf.
type rows struct {
	auto   glush.Auto
	first  nums.Set
	follow []nums.Set
	of     []nums.Set // the positions of each leaf
}

// rowsOf answers the rule of a term that Check takes.
func rowsOf(t term.Term, leaves []term.Term, most int) (rule, api.Errno) {
	auto, err := glush.Build(Expr(t), most)
	if err != api.OK {
		return nil, err
	}
	r := newRows(auto, len(leaves))
	if err := attribute(r, leaves); err != api.OK {
		return nil, err
	}
	if !auto.Live() {
		return nil, api.ErrNot
	}
	return r, api.OK
}

func newRows(auto glush.Auto, leaves int) *rows {
	r := &rows{auto: auto, first: nums.Of(auto.First), of: make([]nums.Set, leaves)}
	for p, leaf := range auto.Syms {
		r.follow = append(r.follow, nums.Of(auto.Follow[p]))
		r.of[leaf].Add(p)
	}
	return r
}

// behind answers the positions that may stand behind s. Who is handed them may not
// fill them.
func (r *rows) behind(s State) nums.Set {
	if len(s.Pos) == 0 {
		return r.first
	}
	var l nums.Set
	for _, p := range s.Pos {
		if p >= 0 && p < len(r.follow) {
			l.Merge(r.follow[p])
		}
	}
	return l
}

func (r *rows) next(s State) []int { return r.leaves(r.behind(s)) }

// leaves answers which leaves some positions are of.
func (r *rows) leaves(at nums.Set) []int {
	var l []int
	for p := range at.Each {
		l = append(l, r.auto.Syms[p])
	}
	slices.Sort(l)
	return slices.Compact(l)
}

func (r *rows) step(s State, leaf int) State { return r.at(r.behind(s), leaf) }

// at answers the state at those of some positions that are a leaf's.
func (r *rows) at(positions nums.Set, leaf int) State {
	return State{Pos: positions.Both(r.of[leaf]).List()}
}

func (r *rows) ends(s State) bool {
	if len(s.Pos) == 0 {
		return r.auto.Nullable
	}
	return r.auto.Ends(s.Pos)
}

func (r *rows) size() int { return len(r.auto.Syms) }
