package simple

import (
	"slices"

	"rubric/api"
	"rubric/char"
	"rubric/facet"
	"rubric/kind"
)

// step is what one restriction asks, and how texts are put from it on.
type step struct {
	white int
	asks  []ask
}

// ask is what is asked of what a text tells.
type ask func(r Result) bool

// holds tells whether all steps hold of what a text tells, from the base's on.
func (t *Type) holds(r Result) bool {
	for _, s := range t.steps() {
		for _, holds := range s.asks {
			if !holds(r) {
				return false
			}
		}
	}
	return true
}

// steps answers all steps that led to t, from the base's on.
func (t *Type) steps() []*step {
	var all []*step
	for ; t.step != nil; t = t.base {
		all = append(all, t.step)
	}
	slices.Reverse(all)
	return all
}

// checkStep answers the step of an Atomic type of kind k, or of a list of such.
func checkStep(k int, list bool, base *Type, l []facet.Facet) (*step, int, api.Errno) {
	c, at, err := facet.Compile(k, list, base.White(), l)
	if err != api.OK {
		return nil, at, err
	}
	for at, f := range l {
		if !valued(f.Kind) {
			continue
		}
		if _, err := base.Parse(f.Text); err != api.OK {
			return nil, at, api.ErrNot
		}
	}
	return &step{white: c.White(), asks: []ask{checked(c)}}, 0, api.OK
}

// valued tells whether a facet's text tells a value of the type that it restricts.
func valued(facetKind int) bool {
	switch facetKind {
	case facet.Enum, facet.MaxIn, facet.MaxEx, facet.MinIn, facet.MinEx:
		return true
	}
	return false
}

// unionStep answers the step of a Union.
func unionStep(base *Type, l []facet.Facet) (*step, int, api.Errno) {
	var patterns []*facet.Check
	var rows []Result
	for at, f := range l {
		var err api.Errno
		switch f.Kind {
		case facet.Pattern:
			patterns, err = addPattern(patterns, f)
		case facet.Enum:
			rows, err = addRow(rows, base, f)
		default:
			err = api.ErrNot
		}
		if err != api.OK {
			return nil, at, err
		}
	}
	s := &step{white: base.White()}
	if len(patterns) > 0 {
		s.asks = append(s.asks, matched(patterns))
	}
	if len(rows) > 0 {
		s.asks = append(s.asks, listed(rows))
	}
	return s, 0, api.OK
}

// unionListStep answers the step of a list whose item is a Union: its enumerations
// are as a Union's, its other facets as of a list of strings.
func unionListStep(base *Type, l []facet.Facet) (*step, int, api.Errno) {
	var others []facet.Facet
	var rows []Result
	for at, f := range l {
		if f.Kind != facet.Enum {
			others = append(others, f)
			continue
		}
		var err api.Errno
		rows, err = addRow(rows, base, f)
		if err != api.OK {
			return nil, at, err
		}
	}
	// The chapter counts an error's place among the others alone.
	c, at, err := facet.Compile(kind.String, true, base.White(), others)
	if err != api.OK {
		return nil, at, err
	}
	s := &step{white: c.White(), asks: []ask{checked(c)}}
	if len(rows) > 0 {
		s.asks = append(s.asks, listed(rows))
	}
	return s, 0, api.OK
}

// addPattern compiles a pattern as a list's, for then it asks nothing of values.
func addPattern(patterns []*facet.Check, f facet.Facet) ([]*facet.Check, api.Errno) {
	c, _, err := facet.Compile(kind.String, true, char.Preserve, []facet.Facet{f})
	return append(patterns, c), err
}

// addRow adds what an enumeration's text tells.
func addRow(rows []Result, base *Type, f facet.Facet) ([]Result, api.Errno) {
	r, err := base.Parse(f.Text)
	return append(rows, r), err
}

// checked asks what a step's facets ask.
func checked(c *facet.Check) ask {
	return func(r Result) bool { return c.Holds(r.Text, r.Values) }
}

// matched asks that one of the patterns matches the text.
func matched(patterns []*facet.Check) ask {
	return func(r Result) bool {
		return slices.ContainsFunc(patterns, func(c *facet.Check) bool { return c.Holds(r.Text, nil) })
	}
}

// listed asks that one of the enumeration's rows is the same.
func listed(rows []Result) ask {
	return func(r Result) bool {
		return slices.ContainsFunc(rows, func(row Result) bool { return Same(row, r) })
	}
}
