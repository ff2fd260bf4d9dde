package term_test

import (
	"slices"

	"rubric/api"
	"rubric/term"
	"rubric/wild"
)

// dice are numbers that look thrown, the same in each run.
type dice uint64

func (d *dice) throw(n int) int {
	*d = *d*6364136223846793005 + 1442695040888963407
	return int(uint64(*d) >> 33 % uint64(n))
}

// again answers t with another Min and Max, the plain ones more often.
func (d *dice) again(t term.Term) term.Term {
	b := [][2]int{{1, 1}, {1, 1}, {1, 1}, {0, 1}, {0, -1}, {1, -1}, {0, 0}, {2, 2}, {0, 2}, {1, 3}, {2, -1}, {3, 4}}
	l := b[d.throw(len(b))]
	return times(l[0], l[1], t)
}

// leaf answers a leaf of few names, or of few spaces, with some number.
func (d *dice) leaf() term.Term {
	l := []term.Term{
		elem("a"), elem("a"), elem("b"), elem("u:a"), elem("c"), elem("a"), elem("b"),
		anyOf(every()), anyOf(other("u")), anyOf(other("")), anyOf(these("u")), anyOf(these("")), anyOf(these("", "u", "v")), anyOf(these()),
	}
	t := l[d.throw(len(l))]
	t.Leaf = d.throw(5)
	return t
}

// within answers a term that may stand anywhere.
func (d *dice) within(depth int) term.Term {
	t := d.leaf()
	switch d.throw(10) {
	case 0:
		t = empty()
	case 1, 2, 3, 4, 5, 6, 7:
		if depth > 0 {
			t = of([]int{term.Seq, term.Choice}[d.throw(2)])
			for range d.throw(4) {
				t.Kids = append(t.Kids, d.within(depth-1))
			}
		}
	}
	return d.again(t)
}

// top answers a term, now and then an All.
func (d *dice) top(depth int) term.Term {
	if d.throw(6) > 0 {
		return d.within(depth)
	}
	t := times(d.throw(2), 1, all())
	for _, n := range []string{"a", "b", "u:a", "c", "v:c"} {
		if d.throw(2) == 0 {
			most := (1 + d.throw(4)) / 2 % 2
			k := times(d.throw(most+1), most, elem(n))
			k.Leaf = d.throw(5)
			t.Kids = append(t.Kids, k)
		}
	}
	return t
}

// row answers a few names.
func (d *dice) row(most int) []api.Name {
	var w []api.Name
	for range d.throw(most + 1) {
		w = append(w, names("aabAcXx")[d.throw(7)])
	}
	return w
}

// The meaning, said a second time by trying all cuts of a row of names: the rows of
// leaves' numbers by which it is a word. A term is numbered as it is gone over.

// reading is a term whose leaves have their numbers; of names that were tried it
// keeps what came of them, so that trying ends in time.
type reading struct {
	t    term.Term
	leaf int
	kids []*reading
	w    []api.Name
	was  map[[2]int][][]int
}

func read(t term.Term, w []api.Name, next *int) *reading {
	r := &reading{t: t, leaf: *next, w: w, was: map[[2]int][][]int{}}
	if t.Kind == term.Elem || t.Kind == term.Any {
		*next++
	}
	for _, k := range t.Kids {
		r.kids = append(r.kids, read(k, w, next))
	}
	return r
}

func hit(t term.Term, n api.Name) bool {
	if t.Kind == term.Elem {
		return t.Name.Space == n.Space && t.Name.Local == n.Local
	}
	switch t.W.How {
	case wild.Every:
		return true
	case wild.Other:
		return n.Space != "" && n.Space != t.W.Not
	}
	return slices.Contains(t.W.Spaces, n.Space)
}

// rowsOf answers all rows, rising, each once.
func rowsOf(t term.Term, w []api.Name) [][]int {
	next := 0
	return read(t, w, &next).rows(0, len(w))
}

func tidy(l [][]int) [][]int {
	slices.SortFunc(l, slices.Compare[[]int])
	return slices.CompactFunc(l, slices.Equal[[]int])
}

// trial answers the rows by which the names from i to j are a word.
type trial func(i, j int) [][]int

func (r *reading) rows(i, j int) [][]int {
	if was, known := r.was[[2]int{i, j}]; known {
		return was
	}
	most := r.t.Max
	if most == -1 {
		// More words than names and Min are more empty ones.
		most = r.t.Min + j - i
	}
	var out [][]int
	for n := r.t.Min; n <= most; n++ {
		out = append(out, inRow(slices.Repeat([]trial{r.once}, n), i, j)...)
	}
	out = tidy(out)
	r.was[[2]int{i, j}] = out
	return out
}

func (r *reading) once(i, j int) [][]int {
	switch r.t.Kind {
	case term.Elem, term.Any:
		if j == i+1 && hit(r.t, r.w[i]) {
			return [][]int{{r.leaf}}
		}
	case term.Seq:
		var l []trial
		for _, k := range r.kids {
			l = append(l, k.rows)
		}
		return inRow(l, i, j)
	case term.Choice:
		var out [][]int
		for _, k := range r.kids {
			out = append(out, k.rows(i, j)...)
		}
		return out
	case term.All:
		return inAnyOrder(r.kids, i, j)
	case term.Empty:
		return inRow(nil, i, j)
	}
	return nil
}

// inRow answers the rows by which the names are a word of each, one behind the
// other.
func inRow(l []trial, i, j int) [][]int {
	if len(l) == 0 {
		if i == j {
			return [][]int{{}}
		}
		return nil
	}
	var out [][]int
	for cut := i; cut <= j; cut++ {
		fronts := l[0](i, cut)
		if len(fronts) == 0 {
			continue
		}
		for _, back := range inRow(l[1:], cut, j) {
			for _, front := range fronts {
				out = append(out, slices.Concat(front, back))
			}
		}
	}
	return tidy(out)
}

// inAnyOrder tries each kid as the first one.
func inAnyOrder(l []*reading, i, j int) [][]int {
	if len(l) == 0 {
		return inRow(nil, i, j)
	}
	var out [][]int
	for n, k := range l {
		rest := slices.Delete(slices.Clone(l), n, n+1)
		then := func(i, j int) [][]int { return inAnyOrder(rest, i, j) }
		out = append(out, inRow([]trial{k.rows, then}, i, j)...)
	}
	return tidy(out)
}

// wordsOf answers all rows of at most that many names of an alphabet.
func wordsOf(most int, l []api.Name) [][]api.Name {
	out := [][]api.Name{{}}
	for from := 0; len(out[from]) < most; from++ {
		for _, n := range l {
			out = append(out, append(slices.Clone(out[from]), n))
		}
	}
	return out
}
