package term_test

import (
	"slices"

	"rubric/api"
	"rubric/term"
	"rubric/terms"
)

// dice throw terms of few names, so that many of their leaves are alike.
type dice struct{ *terms.Dice }

func newDice(seed int) dice {
	return dice{terms.NewDice(seed,
		elem("a"), elem("a"), elem("b"), elem("u:a"), elem("c"), elem("a"), elem("b"),
		anyOf(every()), anyOf(other("u")), anyOf(other("")), anyOf(these("u")), anyOf(these("")), anyOf(these("", "u", "v")), anyOf(these()),
	)}
}

// row answers a few names.
func (d dice) row(most int) []api.Name {
	var w []api.Name
	for range d.Throw(most + 1) {
		w = append(w, names("aabAcXx")[d.Throw(7)])
	}
	return w
}

// The meaning, said a second time by trying all cuts of a row of names: the rows of
// leaves' numbers by which it is a word. A term is numbered as it is gone over.

// reading is a term whose leaves have their numbers; of names that were tried it
// keeps what came of them, so that trying ends in time.
type reading struct {
	t    term.Term
	leaf int
	kids []*reading
	w    []api.Name
	was  map[[2]int][][]int
}

func read(t term.Term, w []api.Name, next *int) *reading {
	r := &reading{t: t, leaf: *next, w: w, was: map[[2]int][][]int{}}
	if t.Kind == term.Elem || t.Kind == term.Any {
		*next++
	}
	for _, k := range t.Kids {
		r.kids = append(r.kids, read(k, w, next))
	}
	return r
}

// rowsOf answers all rows, rising, each once.
func rowsOf(t term.Term, w []api.Name) [][]int {
	next := 0
	return read(t, w, &next).rows(0, len(w))
}

func tidy(l [][]int) [][]int {
	slices.SortFunc(l, slices.Compare[[]int])
	return slices.CompactFunc(l, slices.Equal[[]int])
}

// trial answers the rows by which the names from i to j are a word.
type trial func(i, j int) [][]int

func (r *reading) rows(i, j int) [][]int {
	if was, known := r.was[[2]int{i, j}]; known {
		return was
	}
	most := r.t.Max
	if most == -1 {
		// More words than names and Min are more empty ones.
		most = r.t.Min + j - i
	}
	var out [][]int
	for n := r.t.Min; n <= most; n++ {
		out = append(out, inRow(slices.Repeat([]trial{r.once}, n), i, j)...)
	}
	out = tidy(out)
	r.was[[2]int{i, j}] = out
	return out
}

func (r *reading) once(i, j int) [][]int {
	switch r.t.Kind {
	case term.Elem, term.Any:
		if j == i+1 && hit(r.t, r.w[i]) {
			return [][]int{{r.leaf}}
		}
	case term.Seq:
		var l []trial
		for _, k := range r.kids {
			l = append(l, k.rows)
		}
		return inRow(l, i, j)
	case term.Choice:
		var out [][]int
		for _, k := range r.kids {
			out = append(out, k.rows(i, j)...)
		}
		return out
	case term.All:
		return inAnyOrder(r.kids, i, j)
	case term.Empty:
		return inRow(nil, i, j)
	}
	return nil
}

// inRow answers the rows by which the names are a word of each, one behind the
// other.
func inRow(l []trial, i, j int) [][]int {
	if len(l) == 0 {
		if i == j {
			return [][]int{{}}
		}
		return nil
	}
	var out [][]int
	for cut := i; cut <= j; cut++ {
		fronts := l[0](i, cut)
		if len(fronts) == 0 {
			continue
		}
		for _, back := range inRow(l[1:], cut, j) {
			for _, front := range fronts {
				out = append(out, slices.Concat(front, back))
			}
		}
	}
	return tidy(out)
}

// inAnyOrder tries each kid as the first one.
func inAnyOrder(l []*reading, i, j int) [][]int {
	if len(l) == 0 {
		return inRow(nil, i, j)
	}
	var out [][]int
	for n, k := range l {
		rest := slices.Delete(slices.Clone(l), n, n+1)
		then := func(i, j int) [][]int { return inAnyOrder(rest, i, j) }
		out = append(out, inRow([]trial{k.rows, then}, i, j)...)
	}
	return tidy(out)
}
