package simple

import (
	"rubric/api"
	"rubric/char"
	"rubric/facet"
	"rubric/kind"
	"rubric/nums"
)

// shape is what a type is ahead of all its steps.
type shape interface {
	variety() int
	kind() int
	item() *Type
	members() []*Type
	inside() inside
	white() int
	// take answers what s tells, its blanks put as white has it.
	take(s string, white int) (Result, bool)
	// restrict answers the step of a type that restricts base, which has this
	// shape; else an error and its place.
	restrict(base *Type, l []facet.Facet) (*step, int, api.Errno)
}

// inside is what lies within a type, its members' members and so on: how many that
// are no Unions, whether one of them is a List, and of which kinds values may be.
// It is kept, so that nobody has to go down to them.
type inside struct {
	leaves int
	lists  bool
	kinds  nums.Set
}

// add counts what lies within a member.
func (i *inside) add(m inside) {
	i.leaves += m.leaves
	i.lists = i.lists || m.lists
	i.kinds.Merge(m.kinds)
}

// every is the shape of all texts. The others hold it for what they have nothing
// to say to.
type every struct{}

func (every) variety() int     { return Any }
func (every) kind() int        { return 0 }
func (every) item() *Type      { return nil }
func (every) members() []*Type { return nil }
func (every) inside() inside   { return inside{leaves: 1} }
func (every) white() int       { return char.Preserve }

func (every) take(s string, white int) (Result, bool) {
	return Result{White: white, Text: s}, true
}

func (every) restrict(*Type, []facet.Facet) (*step, int, api.Errno) {
	return nil, 0, api.ErrNot
}

// atomic is the shape of one value of a built-in kind.
type atomic struct {
	every
	of int
}

func (a atomic) variety() int   { return Atomic }
func (a atomic) kind() int      { return a.of }
func (a atomic) inside() inside { return inside{leaves: 1, kinds: nums.One(a.of)} }
func (a atomic) white() int     { return kind.White(a.of) }

func (a atomic) take(s string, white int) (Result, bool) {
	text := char.Space(s, white)
	v, err := kind.Parse(a.of, text)
	if err != api.OK {
		return Result{}, false
	}
	return Result{Kind: a.of, White: white, Text: text, Values: []kind.Value{v}}, true
}

func (a atomic) restrict(base *Type, l []facet.Facet) (*step, int, api.Errno) {
	return checkStep(a.of, false, base, l)
}

// list is the shape of words that are one item each.
type list struct {
	every
	of *Type
}

func (l list) variety() int { return List }
func (l list) item() *Type  { return l.of }
func (l list) white() int   { return char.Collapse }

func (l list) inside() inside {
	return inside{leaves: 1, lists: true, kinds: l.of.is().inside().kinds}
}

func (l list) take(s string, white int) (Result, bool) {
	r := Result{White: white, Text: char.Space(s, white)}
	for _, word := range char.Words(r.Text) {
		got, err := l.of.Parse(word)
		if err != api.OK {
			return Result{}, false
		}
		r.Values = append(r.Values, got.Values...)
	}
	return r, true
}

func (l list) restrict(base *Type, facets []facet.Facet) (*step, int, api.Errno) {
	if l.of.Variety() == Atomic {
		return checkStep(l.of.Kind(), true, base, facets)
	}
	return unionListStep(base, facets)
}

// union is the shape of what one of the members takes.
type union struct {
	every
	of  []*Type
	sum inside
}

func (u union) variety() int     { return Union }
func (u union) members() []*Type { return u.of }
func (u union) inside() inside   { return u.sum }

// turn is a Union that lies within another one, and its members that were not asked
// yet.
type turn struct {
	of   *Type
	left []*Type
}

// take keeps a row of the Unions that it is in: they may lie within one another
// deeper than Go's stack can grow.
func (u union) take(s string, _ int) (Result, bool) {
	open := []turn{{left: u.of}}
	for len(open) > 0 {
		in := &open[len(open)-1]
		if len(in.left) == 0 {
			open = open[:len(open)-1]
			continue
		}
		m := in.left[0]
		in.left = in.left[1:]
		if m.Variety() == Union {
			open = append(open, turn{of: m, left: m.is().members()})
			continue
		}
		r, err := m.Parse(s)
		if err != api.OK {
			continue
		}
		open = out(open, r)
		if len(open) == 0 {
			return r, true
		}
	}
	return Result{}, false
}

// out answers which Unions stay open once a member has told something: those whose
// steps hold of it are left, from the innermost one on, and so is the first one whose
// steps do not; then the one around that goes on with its next member. None is open
// any more, if all take it (the outermost one's steps are not asked here).
func out(open []turn, r Result) []turn {
	for len(open) > 1 {
		in := open[len(open)-1].of
		open = open[:len(open)-1]
		if !in.holds(r) {
			return open
		}
	}
	return nil
}

func (u union) restrict(base *Type, l []facet.Facet) (*step, int, api.Errno) {
	return unionStep(base, l)
}
