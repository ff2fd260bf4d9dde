package term

import "rubric/api"

// ways are the rows of leaves' numbers by which names are a word: the names from
// place i to place j by those at [i][j].
type ways [][]rows

// pathing answers what the parts of one term mean for one row of names.
type pathing struct {
	names []api.Name
	met   int // how many leaves were come to
}

// never answers the ways by which nothing is a word.
func (p *pathing) never() ways {
	w := make(ways, len(p.names)+1)
	for i := range w {
		w[i] = make([]rows, len(p.names)+1)
	}
	return w
}

// noName answers the ways by which just no name is a word.
func (p *pathing) noName() ways {
	w := p.never()
	for i := range w {
		w[i][i] = noNumber()
	}
	return w
}

func (p *pathing) leaf(leaf *Term) ways {
	w := p.never()
	for i, n := range p.names {
		if Hits(*leaf, n) {
			w[i][i+1] = rows{{p.met}}
		}
	}
	p.met++
	return w
}

func (p *pathing) row(l ...ways) ways {
	w := p.noName()
	for _, k := range l {
		w = p.behind(w, k)
	}
	return w
}

// behind answers the ways by which a word of a and then one of b stand.
func (p *pathing) behind(a, b ways) ways {
	w := p.never()
	for i := range w {
		for j := i; j < len(w); j++ {
			for via := i; via <= j; via++ {
				w[i][j] = w[i][j].with(a[i][via], b[via][j])
			}
		}
	}
	return w
}

func (p *pathing) choice(l ...ways) ways {
	w := p.never()
	for _, k := range l {
		for i := range w {
			for j := i; j < len(w); j++ {
				w[i][j] = w[i][j].with(k[i][j], noNumber())
			}
		}
	}
	return w
}

func (p *pathing) times(least, most int, k ways) ways {
	if len(k[0][0]) > 0 {
		// Empty words fill up any number: fewer ones do as well.
		least = 0
	}
	if least > len(p.names) {
		return p.never()
	}
	var w ways
	if most == endless {
		w = p.always(k)
	} else {
		w = p.maybe(most-least, k)
	}
	for range least {
		w = p.behind(k, w)
	}
	return w
}

// maybe answers the ways by which words of k stand one behind the other, most of
// them at the most.
func (p *pathing) maybe(most int, k ways) ways {
	w := p.noName()
	// No more of them than there are names are not empty.
	for range min(most, len(p.names)) {
		w = p.choice(p.noName(), p.behind(k, w))
	}
	return w
}

// always answers the ways by which any number of words of k stand one behind the
// other. It goes from the last place back: so it is known what may stand behind a
// word that is not empty.
func (p *pathing) always(k ways) ways {
	w := p.noName()
	for i := len(p.names) - 1; i >= 0; i-- {
		for j := i + 1; j < len(w); j++ {
			for via := i + 1; via <= j; via++ {
				w[i][j] = w[i][j].with(k[i][via], w[via][j])
			}
		}
	}
	return w
}
