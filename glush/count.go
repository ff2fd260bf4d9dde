package glush

// mostCut is the greatest number that Positions may be asked to cut to.
const mostCut = 1 << 20

// counter counts positions. Expressions with more nodes than Check takes are
// counted too, and one list may stand in many of their places: so it keeps what it
// knows.
type counter struct {
	most  int
	known map[*Expr]int
}

// count answers how many positions there are; deeper than Check takes it, none.
func (c *counter) count(e *Expr, depth int) int {
	if e.Kind == Sym {
		return 1
	}
	if e.Kind != Seq && e.Kind != Alt && e.Kind != Rep || depth > maxDepth {
		return 0
	}
	if n, known := c.known[e]; known {
		return n
	}
	n := 0
	for i := range e.Kids {
		n = c.cut(n + c.count(&e.Kids[i], depth+1))
	}
	if e.Kind == Rep {
		// Cut ahead of the product too, which then can't wrap round.
		n = c.cut(n * c.cut(e.times()))
	}
	c.known[e] = n
	return n
}

func (c *counter) cut(n int) int { return min(n, c.most+1) }

// times answers how often a Rep's kid is written out.
func (e *Expr) times() int {
	if e.Max < 0 {
		return max(e.Min, 1)
	}
	return e.Max
}
