package term

// meaning is what terms mean to one question, by functions that are handed on down
// the term: what a leaf says, and what comes of parts that stand one behind the
// other, of which one stands, and of a part that stands again and again.
type meaning[P any] struct {
	leaf   func(leaf *Term) P
	row    func(l ...P) P
	choice func(l ...P) P
	times  func(least, most int, p P) P
}

// of answers what a term that Check takes means. It comes to the leaves from the
// left. An All means its kids in the order in which they are written.
func (m *meaning[P]) of(t *Term) P {
	p := m.once(t)
	if t.Min == 1 && t.Max == 1 {
		return p
	}
	return m.times(t.Min, t.Max, p)
}

// once answers what the term means that stands just once.
func (m *meaning[P]) once(t *Term) P {
	switch t.Kind {
	case Elem, Any:
		return m.leaf(t)
	case Choice:
		return m.choice(m.kids(t)...)
	}
	return m.row(m.kids(t)...)
}

func (m *meaning[P]) kids(t *Term) []P {
	var l []P
	for i := range t.Kids {
		l = append(l, m.of(&t.Kids[i]))
	}
	return l
}
