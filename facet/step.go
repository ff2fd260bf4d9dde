package facet

import (
	"strconv"

	"rubric/api"
	"rubric/char"
	"rubric/date"
	"rubric/kind"
	"rubric/nfa"
)

// step is what has been read of one step's facets.
type step struct {
	k       int
	list    bool
	white   int
	seen    [Fraction + 1]bool
	numbers [Fraction + 1]int        // of lengths and digits
	bounds  [Fraction + 1]kind.Value // of bounds
	asks    []ask
	// Of patterns and of enumerations one is enough: so each kind asks once, of
	// all of its own.
	patterns []*nfa.Matcher
	rows     [][]kind.Value
}

// read takes one facet, of a kind that there is; or answers its error.
func (s *step) read(f Facet) api.Errno {
	if !May(kind.Prim(s.k), f.Kind, s.list) {
		return api.ErrNot
	}
	if s.seen[f.Kind] && f.Kind != Pattern && f.Kind != Enum {
		return api.ErrDup
	}
	s.seen[f.Kind] = true
	put := char.Space(f.Text, char.Collapse)
	switch f.Kind {
	case Pattern:
		return s.readPattern(f.Text)
	case Enum:
		return s.readRow(f.Text)
	case White:
		return s.readWhite(put)
	case MaxIn, MaxEx, MinIn, MinEx:
		return s.readBound(f.Kind, put)
	}
	return s.readNumber(f.Kind, put)
}

func (s *step) readPattern(text string) api.Errno {
	m, _, err := nfa.Compile(text, api.MaxPos)
	if err != api.OK {
		return err
	}
	s.patterns = append(s.patterns, m)
	return api.OK
}

// readRow takes an enumeration's values: of a list any number, else one.
func (s *step) readRow(text string) api.Errno {
	words := []string{text}
	if s.list {
		words = char.Words(text)
	}
	var row []kind.Value
	for _, word := range words {
		v, err := kind.Parse(s.k, word)
		if err != api.OK {
			return err
		}
		row = append(row, v)
	}
	s.rows = append(s.rows, row)
	return api.OK
}

func (s *step) readWhite(text string) api.Errno {
	own := whiteOf(text)
	switch {
	case own == 0:
		return api.ErrForm
	case s.list && own != char.Collapse:
		return api.ErrNot
	case own < s.white && s.white <= char.Collapse:
		// What is beyond Collapse is no way to put a text: it leaves all as it is.
		return api.ErrNot
	}
	s.white = own
	return api.OK
}

// whiteOf answers how whiteSpace's text has texts put; 0, if it is none.
func whiteOf(text string) int {
	switch text {
	case "preserve":
		return char.Preserve
	case "replace":
		return char.Replace
	case "collapse":
		return char.Collapse
	}
	return 0
}

func (s *step) readBound(facet int, text string) api.Errno {
	v, err := kind.Parse(s.k, text)
	if err != api.OK {
		return err
	}
	s.bounds[facet] = v
	s.asks = append(s.asks, bounded(facet, v))
	return api.OK
}

// readNumber takes a length, or a number of digits.
func (s *step) readNumber(facet int, text string) api.Errno {
	n, err := strconv.ParseUint(text, 10, 32)
	if err != nil || len(text) > 6 || facet == Total && n == 0 {
		return api.ErrForm
	}
	s.numbers[facet] = int(n)
	s.asks = append(s.asks, counted(facet, int(n), s.list))
	return api.OK
}

// fits tells whether the facets fit each other.
func (s *step) fits() bool {
	switch {
	case s.seen[Length] && (s.seen[MinLength] || s.seen[MaxLength]):
		return false
	case s.both(MinIn, MinEx), s.both(MaxIn, MaxEx):
		return false
	case s.above(MinLength, MaxLength), s.above(Fraction, Total):
		return false
	}
	return !s.crossed()
}

func (s *step) both(one, other int) bool {
	return s.seen[one] && s.seen[other]
}

// above tells whether two numbers are there, and one is above the other.
func (s *step) above(one, other int) bool {
	return s.both(one, other) && s.numbers[one] > s.numbers[other]
}

// crossed tells whether the least bound leaves nothing below the greatest one. It
// may be unknown which is less: then they stay.
func (s *step) crossed() bool {
	lo, hi := s.either(MinIn, MinEx), s.either(MaxIn, MaxEx)
	if lo == 0 || hi == 0 {
		return false
	}
	switch kind.Cmp(s.bounds[lo], s.bounds[hi]) {
	case date.Greater:
		return true
	case date.Equal:
		return lo == MinEx || hi == MaxEx
	}
	return false
}

// either answers which of two facets is there; 0, if neither is.
func (s *step) either(one, other int) int {
	switch {
	case s.seen[one]:
		return one
	case s.seen[other]:
		return other
	}
	return 0
}

// check answers what asks all that was read. Facets that are not there have zero
// values, as is right for bounds.
func (s *step) check() *Check {
	lo, hi := s.either(MinIn, MinEx), s.either(MaxIn, MaxEx)
	asks := s.asks
	if s.seen[Pattern] {
		asks = append(asks, matched(s.patterns))
	}
	if s.seen[Enum] {
		asks = append(asks, listed(s.rows))
	}
	return &Check{
		white: s.white, asks: asks,
		lo: s.bounds[lo], hi: s.bounds[hi], hasLo: lo != 0, hasHi: hi != 0,
	}
}
