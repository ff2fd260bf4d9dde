package glush

// meaning says of places in a word where words of expressions end that begin
// there. It knows nothing of positions.
type meaning struct {
	w      []int
	within int // how many Reps
	known  map[*Expr]map[text]numbers
}

// ends answers where words of e end that begin at one of from.
func (m *meaning) ends(e *Expr, from numbers) numbers {
	switch e.Kind {
	case Empty:
		return from
	case Sym:
		return m.symbol(e.Sym, from)
	case Seq:
		for i := range e.Kids {
			from = m.ends(&e.Kids[i], from)
		}
		return from
	case Alt:
		var all numbers
		for i := range e.Kids {
			all.merge(m.ends(&e.Kids[i], from))
		}
		return all
	case Rep:
		m.within++
		all := m.repeat(e, from)
		m.within--
		return all
	}
	return numbers{}
}

func (m *meaning) symbol(sym int, from numbers) numbers {
	var ends numbers
	for i := range from.each {
		if i < len(m.w) && m.w[i] == sym {
			ends.add(i + 1)
		}
	}
	return ends
}

// repeat puts so many of a Rep's words behind one another as there must be, and
// then those that may be: from no place twice, as more words are left there when
// it is come to first.
func (m *meaning) repeat(e *Expr, from numbers) numbers {
	kid, least := &e.Kids[0], e.Min
	if m.empties(kid) {
		// Empty words fill up any number: fewer ones do as well.
		least = 0
	}
	for n := 0; n < least && !from.empty(); n++ {
		from = m.once(kid, from)
	}
	all, fresh := from.clone(), from
	for n := least; (e.Max == endless || n < e.Max) && !fresh.empty(); n++ {
		fresh = m.once(kid, fresh).less(all)
		all.merge(fresh)
	}
	return all
}

// empties answers whether a Rep's kid has the empty word: behind all of w there is
// no other.
func (m *meaning) empties(kid *Expr) bool {
	end := len(m.w)
	return m.once(kid, single(end)).has(end)
}

// once is ends of a Rep's kid. A Rep in a Rep in a Rep would ask its kid for more
// than can ever be: so what is known is kept. There are too many sets of places to
// keep all of them; once there are as many as places, each place is asked for by
// itself.
func (m *meaning) once(kid *Expr, from numbers) numbers {
	if m.within == 1 || !repeats(kid) {
		return m.ends(kid, from)
	}
	if len(m.known[kid]) <= len(m.w) {
		return m.remember(kid, from)
	}
	var all numbers
	for i := range from.each {
		all.merge(m.remember(kid, single(i)))
	}
	return all
}

func (m *meaning) remember(kid *Expr, from numbers) numbers {
	if m.known[kid] == nil {
		m.known[kid] = map[text]numbers{}
	}
	key := from.text()
	ends, known := m.known[kid][key]
	if !known {
		ends = m.ends(kid, from)
		m.known[kid][key] = ends
	}
	return ends
}

// repeats answers whether there is a Rep in e.
func repeats(e *Expr) bool {
	switch e.Kind {
	case Rep:
		return true
	case Seq, Alt:
		for i := range e.Kids {
			if repeats(&e.Kids[i]) {
				return true
			}
		}
	}
	return false
}
