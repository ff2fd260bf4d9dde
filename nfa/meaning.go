package nfa

import (
	"rubric/api"
	"rubric/nums"
	"rubric/pat"
	"rubric/set"
	"rubric/words"
)

// mostNodes is how many nodes a tree has at most that Parse tells: one for each
// byte of the pattern, and two that stand for no byte, for its alternatives and
// for the first one's pieces.
const mostNodes = api.MaxToken + 2

// told answers whether n has no more nodes than Parse tells. Others may have one
// list in many places, and even in itself.
func told(n *pat.Node) bool {
	nodes := 0
	return fits(n, &nodes)
}

// fits counts n's nodes, and leaves with the first one that is too many.
func fits(n *pat.Node, nodes *int) bool {
	*nodes++
	if *nodes > mostNodes {
		return false
	}
	for i := range n.Kids {
		if !fits(&n.Kids[i], nodes) {
			return false
		}
	}
	return true
}

// meaning is a text of which a tree says whether it is a word.
type meaning struct {
	length words.Length
	at     map[rune]nums.Set // just behind which places each letter stands
	known  []stand
}

// stand is letters, and the places just behind which one of them stands.
type stand struct {
	letters set.Set
	at      nums.Set
}

func meaningOf(s string) *meaning {
	m := &meaning{at: map[rune]nums.Set{}}
	for _, r := range s {
		at := m.at[r]
		at.Add(int(m.length))
		m.at[r] = at
		m.length++
	}
	return m
}

// part answers what a tree means.
func (m *meaning) part(n *pat.Node) words.Part {
	switch n.Kind {
	case pat.Empty:
		return words.Row()
	case pat.Sym:
		return words.Symbol(m.places(n.Set))
	case pat.Seq:
		return words.Row(m.parts(n.Kids)...)
	case pat.Alt:
		return words.Choice(m.parts(n.Kids)...)
	case pat.Rep:
		// A Rep made by hand may have no kid, or several.
		return m.length.Times(n.Min, n.Max, words.Row(m.parts(n.Kids)...))
	}
	return words.Choice()
}

func (m *meaning) parts(kids []pat.Node) []words.Part {
	var l []words.Part
	for i := range kids {
		l = append(l, m.part(&kids[i]))
	}
	return l
}

// places answers just behind which places one of the letters stands. Long patterns
// have the same letters again and again: so what is known is kept.
func (m *meaning) places(letters set.Set) nums.Set {
	for _, k := range m.known {
		if set.Same(k.letters, letters) {
			return k.at
		}
	}
	var all nums.Set
	for r, at := range m.at {
		if letters.Has(r) {
			all.Merge(at)
		}
	}
	m.known = append(m.known, stand{letters, all})
	return all
}
