package glush

import (
	"rubric/nums"
	"rubric/words"
)

// meaning is a word of which an expression says whether it is one of its own.
type meaning struct {
	length words.Length
	at     map[int]nums.Set // just behind which places each symbol stands
}

func meaningOf(w []int) meaning {
	m := meaning{length: words.Length(len(w)), at: map[int]nums.Set{}}
	for i, sym := range w {
		at := m.at[sym]
		at.Add(i)
		m.at[sym] = at
	}
	return m
}

// part answers what an expression that Check takes means.
func (m meaning) part(e *Expr) words.Part {
	switch e.Kind {
	case Empty:
		return words.Row()
	case Sym:
		return words.Symbol(m.at[e.Sym])
	case Seq:
		return words.Row(m.parts(e.Kids)...)
	case Alt:
		return words.Choice(m.parts(e.Kids)...)
	case Rep:
		return m.length.Times(e.Min, e.Max, m.part(&e.Kids[0]))
	}
	return words.Choice()
}

func (m meaning) parts(kids []Expr) []words.Part {
	var l []words.Part
	for i := range kids {
		l = append(l, m.part(&kids[i]))
	}
	return l
}
