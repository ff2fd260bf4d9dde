package auto_test

import (
	"slices"
	"strconv"
	"testing"

	"rubric/api"
	"rubric/auto"
	"rubric/glush"
	"rubric/term"
)

// The meaning, said a second time without positions: what may stand behind a leaf is
// told as terms that are left.

// head is a leaf that a word may begin with, and the terms that are left behind it,
// one behind the other.
type head struct {
	leaf term.Term
	rest []term.Term
}

// none answers whether the empty row is a word.
func none(t term.Term) bool {
	if t.Min == 0 {
		return true
	}
	switch t.Kind {
	case term.Seq:
		return !slices.ContainsFunc(t.Kids, func(k term.Term) bool { return !none(k) })
	case term.Choice:
		return slices.ContainsFunc(t.Kids, none)
	}
	return t.Kind == term.Empty
}

// heads answers all heads of a term, also those of which no word comes.
func heads(t term.Term) []head {
	if t.Max == 0 {
		return nil
	}
	left := t
	left.Min = max(t.Min-1, 0)
	if t.Max > 0 {
		left.Max--
	}
	var out []head
	for _, h := range headsOnce(t) {
		if left.Max != 0 {
			h.rest = append(slices.Clone(h.rest), left)
		}
		out = append(out, h)
	}
	return out
}

func headsOnce(t term.Term) []head {
	switch t.Kind {
	case term.Seq:
		return headsOf(t.Kids)
	case term.Choice:
		var out []head
		for _, k := range t.Kids {
			out = append(out, heads(k)...)
		}
		return out
	case term.Empty:
		return nil
	}
	return []head{{leaf: t}}
}

// headsOf answers the heads of terms that stand one behind the other.
func headsOf(l []term.Term) []head {
	var out []head
	for i, k := range l {
		for _, h := range heads(k) {
			out = append(out, head{h.leaf, slices.Concat(h.rest, l[i+1:])})
		}
		if !none(k) {
			break
		}
	}
	return out
}

// left is what may be left behind a row of names: by its text each row of terms.
type left map[string][]term.Term

func (l left) add(rest []term.Term) {
	key := ""
	for _, t := range rest {
		key += tell(t) + "#" + leafText(t) + " "
	}
	l[key] = rest
}

// leafText tells the leaves' numbers, as unlike leaves may be written alike.
func leafText(t term.Term) string {
	out := ""
	for _, leaf := range term.Leaves(t) {
		out += strconv.Itoa(leaf.Leaf) + ","
	}
	return out
}

func (l left) key() string {
	var keys []string
	for k := range l {
		keys = append(keys, k)
	}
	slices.Sort(keys)
	out := ""
	for _, k := range keys {
		out += k + "\n"
	}
	return out
}

// ends answers whether nothing need be left.
func (l left) ends() bool {
	for _, rest := range l {
		if !slices.ContainsFunc(rest, func(t term.Term) bool { return !none(t) }) {
			return true
		}
	}
	return false
}

// behind answers what is left behind one more name, and the leaves that it may be,
// rising.
func (l left) behind(n api.Name) (left, []int) {
	out := left{}
	var leaves []int
	for _, rest := range l {
		for _, h := range headsOf(rest) {
			if hit(h.leaf, n) {
				leaves = append(leaves, h.leaf.Leaf)
				out.add(h.rest)
			}
		}
	}
	slices.Sort(leaves)
	return out, slices.Compact(leaves)
}

// begin answers what is left at the beginning: the term.
func begin(t term.Term) left {
	l := left{}
	l.add([]term.Term{term.Number(t)})
	return l
}

// unique goes over all that may be left, and answers whether each name is one leaf's;
// if there is more than may be gone over, that is not known.
func unique(t term.Term) (is, known bool) {
	l := term.Names(term.Leaves(t)...)
	open := []left{begin(t)}
	met := map[string]int{open[0].key(): 1}
	for len(open) > 0 {
		from := open[0]
		open = open[1:]
		for _, n := range l {
			to, leaves := from.behind(n)
			if len(leaves) > 1 {
				return false, true
			}
			if key := to.key(); len(leaves) == 1 && met[key] == 0 {
				met[key]++
				open = append(open, to)
			}
		}
		if len(met) > 150 {
			return false, false
		}
	}
	return true, true
}

// live answers whether there is a word, whatever an Any allows.
func live(t term.Term) bool {
	switch {
	case t.Min == 0:
		return true
	case t.Kind == term.Choice:
		return slices.ContainsFunc(t.Kids, live)
	}
	return !slices.ContainsFunc(t.Kids, func(k term.Term) bool { return !live(k) })
}

// smallTerms answers all terms of few parts over few leaves.
func smallTerms() []term.Term {
	var parts []term.Term
	for _, leaf := range []term.Term{elem("a"), elem("b"), anyOf(other("u")), anyOf(these("")), empty(), choice()} {
		for _, b := range [][2]int{{1, 1}, {0, 1}, {0, -1}, {2, 2}} {
			parts = append(parts, times(b[0], b[1], leaf))
		}
	}
	var pairs, out []term.Term
	for _, x := range parts {
		out = append(out, x, all(x), maybe(all(x)))
		for _, y := range parts {
			out = append(out, all(x, y), maybe(all(x, y)))
			for _, kind := range []int{term.Seq, term.Choice} {
				for _, b := range [][2]int{{1, 1}, {0, 2}, {1, -1}} {
					pairs = append(pairs, times(b[0], b[1], of(kind, x, y)))
				}
			}
		}
	}
	out = append(out, pairs...)
	for i, x := range pairs {
		for j := i % 12; j < len(parts); j += 12 {
			out = append(out, seq(x, parts[j]), choice(parts[j], x), times(2, 3, seq(parts[j], x)))
		}
	}
	return out
}

// TestP1601Meaning: a term has a model just if it is right, each name is one leaf's,
// and there is a word.
func TestP1601Meaning(t *testing.T) {
	d := newDice(31)
	terms := smallTerms()
	for range 12000 {
		terms = append(terms, d.Top(3))
	}
	met := map[api.Errno]int{}
	for _, x := range terms {
		want := term.Check(x)
		if want == api.OK && glush.Positions(auto.Expr(x), api.MaxPos) > api.MaxPos {
			want = api.ErrMany
		} else if want == api.OK && x.Kind != term.All {
			is, known := unique(x)
			if !known {
				continue
			}
			if !is || !live(x) {
				want = api.ErrNot
			}
		}
		if _, err := auto.Compile(x, api.MaxPos); err != want {
			t.Fatalf("%s: %v; want %v", tell(x), err, want)
		}
		met[want]++
	}
	for _, err := range []api.Errno{api.OK, api.ErrArg, api.ErrNot} {
		if met[err] < 1000 {
			t.Errorf("%v: only %d terms", err, met[err])
		}
	}
}

// TestP1601Words (W3): in the short words of a term that has a model the last name of
// each of their fronts is one leaf's; a term without one that has no leaf of which no
// word comes has short words that show why.
func TestP1601Words(t *testing.T) {
	alphabet := names("a b u:a")
	rows := rowsUpTo(4, alphabet)
	leaves := []term.Term{elem("a"), elem("b"), anyOf(other("")), anyOf(every())}
	var parts []term.Term
	for _, leaf := range leaves {
		parts = append(parts, leaf, maybe(leaf))
	}
	parts = append(parts, times(0, -1, leaves[0]), times(2, 2, leaves[0]), times(1, 2, leaves[2]))
	var terms []term.Term
	for _, x := range parts {
		for _, y := range parts {
			for _, kind := range []int{term.Seq, term.Choice} {
				two := of(kind, x, y)
				terms = append(terms, two, times(0, 2, two), times(1, -1, two), seq(two, maybe(elem("a"))))
			}
		}
	}
	for _, x := range terms {
		// By a front as a text and its last leaf's number.
		whose := map[string]int{}
		is := true
		for _, w := range rows {
			for _, path := range term.Paths(x, w) {
				front := ""
				for i, leaf := range path {
					front += w[i].Space + ":" + w[i].Local + " "
					if first, known := whose[front]; known && first != leaf {
						is = false
					}
					whose[front] = leaf
				}
			}
		}
		if _, err := auto.Compile(x, api.MaxPos); (err == api.OK) != is {
			t.Errorf("%s: %v", tell(x), err)
		}
	}
}

// follow goes over a row of names, and holds each state to what is left behind them.
func follow(t *testing.T, x term.Term, m *auto.Model, w []api.Name) {
	t.Helper()
	l, s := begin(x), m.Begin()
	for i := range len(w) + 1 {
		if m.Accepts(s) != l.ends() {
			t.Fatalf("%s: %v: %v", tell(x), w[:i], m.Accepts(s))
		}
		if i == len(w) {
			break
		}
		var leaf int
		var leaves []int
		s, leaf = m.Step(s, w[i])
		l, leaves = l.behind(w[i])
		if s.Dead != (len(leaves) == 0) || !s.Dead && leaf != leaves[0] {
			t.Fatalf("%s: %v: %d; want %v", tell(x), w[:i+1], leaf, leaves)
		}
	}
}

func TestP1602Meaning(t *testing.T) {
	d := newDice(32)
	for range 6000 {
		x, m := d.model(3)
		if x.Kind == term.All {
			continue
		}
		l := term.Names(term.Leaves(x)...)
		for range 3 {
			var w []api.Name
			s := m.Begin()
			for range d.Throw(7) {
				w = append(w, d.likely(m, s, l))
				s, _ = m.Step(s, w[len(w)-1])
			}
			follow(t, x, m, w)
		}
	}
}

// holdsW3 holds a model to a row of names: Word is term.Word, and the leaves that
// Steps tell of a word are the only row of term.Paths.
func holdsW3(t *testing.T, x term.Term, m *auto.Model, w []api.Name) bool {
	t.Helper()
	is := term.Word(x, w)
	if m.Word(w) != is {
		t.Fatalf("%s: %v: %v", tell(x), w, !is)
	}
	var row []int
	s := m.Begin()
	for _, n := range w {
		var leaf int
		s, leaf = m.Step(s, n)
		row = append(row, leaf)
	}
	paths := term.Paths(x, w)
	if m.Accepts(s) != is || is && (len(paths) != 1 || !slices.Equal(paths[0], row)) {
		t.Fatalf("%s: %v: %v; want %v", tell(x), w, row, paths)
	}
	return is
}

func TestP1603SmallTerms(t *testing.T) {
	rows := rowsUpTo(4, names("a b u:a v:a"))
	is := 0
	for i, x := range smallTerms() {
		m, err := auto.Compile(x, api.MaxPos)
		if err != api.OK {
			continue
		}
		for j := i % 40; j < len(rows); j += 40 {
			if holdsW3(t, x, m, rows[j]) {
				is++
			}
		}
	}
	if is < 2000 {
		t.Errorf("only %d words", is)
	}
}

func TestP1603(t *testing.T) {
	d := newDice(33)
	is := 0
	for range 15000 {
		x, m := d.model(4)
		l := term.Names(term.Leaves(x)...)
		for range 3 {
			var w []api.Name
			s := m.Begin()
			for range d.Throw(13) {
				n := d.likely(m, s, l)
				to, _ := m.Step(s, n)
				if to.Dead && d.Throw(8) > 0 {
					break
				}
				w, s = append(w, n), to
			}
			if holdsW3(t, x, m, w) && len(w) > 2 {
				is++
			}
		}
	}
	if is < 3000 {
		t.Errorf("only %d words", is)
	}
}

// TestP1603Kids: of an All each row of its kids' names, in any order, as often as may
// be.
func TestP1603Kids(t *testing.T) {
	rows := rowsUpTo(4, names("a b c u:a"))
	a, b, c := elem("a"), elem("b"), elem("c")
	for _, x := range []term.Term{all(), all(a), all(a, b, c), all(maybe(a), b, c), all(maybe(a), maybe(b), maybe(c)), all(a, times(0, 0, b), maybe(c)), all(times(0, 0, a)), all(maybe(elem("u:a")), a)} {
		for _, y := range []term.Term{x, maybe(x)} {
			m := must(t, y)
			for _, w := range rows {
				holdsW3(t, y, m, w)
			}
		}
	}
}
