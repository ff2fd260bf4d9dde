package term_test

import (
	"slices"
	"strconv"
	"testing"

	"rubric/api"
	"rubric/glush"
	"rubric/term"
)

func TestP1502Word(t *testing.T) {
	a, b := elem("a"), elem("b")
	type l = []string
	for _, c := range []struct {
		t       term.Term
		yes, no l
	}{
		{a, l{"a"}, l{"", "b", "aa", "A", "ab", "ba"}}, {elem("u:a"), l{"A"}, l{"", "a", "B"}},
		{anyOf(every()), l{"a", "x", "A"}, l{"", "aa"}}, {anyOf(other("u")), nil, l{"", "a", "A"}}, {anyOf(other("")), l{"A", "X"}, l{"", "a", "AA"}}, {anyOf(these()), nil, l{"", "a"}}, {anyOf(these("u")), l{"A"}, l{"a"}},
		{empty(), l{""}, l{"a"}}, {times(0, 0, empty()), l{""}, l{"a"}}, {times(1000, -1, empty()), l{""}, l{"a"}},
		{seq(), l{""}, l{"a"}}, {times(1000, 1000, seq()), l{""}, l{"a"}}, {choice(), nil, l{"", "a"}}, {times(0, 1, choice()), l{""}, l{"a"}}, {times(0, 0, choice()), l{""}, l{"a"}}, {times(0, -1, choice()), l{""}, l{"a"}}, {times(2, -1, choice()), nil, l{"", "a"}},
		{seq(a, b), l{"ab"}, l{"", "a", "b", "ba", "aba"}}, {seq(a, choice()), nil, l{"", "a"}}, {seq(choice(), a), nil, l{"", "a"}}, {seq(empty(), a, seq()), l{"a"}, l{"", "aa"}},
		{choice(a, b), l{"a", "b"}, l{"", "ab", "c"}}, {choice(a, seq(a, b)), l{"a", "ab"}, l{"", "b", "aab"}}, {choice(choice(), a), l{"a"}, l{""}}, {choice(a, empty()), l{"", "a"}, l{"aa"}},
		{times(0, 0, a), l{""}, l{"a"}}, {times(0, 1, a), l{"", "a"}, l{"aa"}}, {times(2, 3, a), l{"aa", "aaa"}, l{"", "a", "aaaa", "aab"}}, {times(2, -1, a), l{"aa", "aaaaaaaaa"}, l{"", "a", "aab"}}, {times(0, -1, a), l{"", "a", "aa"}, l{"b", "aba"}},
		{times(2, 2, seq(times(1, 2, a))), l{"aa", "aaa", "aaaa"}, l{"", "a", "aaaaa"}}, {times(2, 2, seq(times(0, 1, a))), l{"", "a", "aa"}, l{"aaa"}},
		{times(0, -1, choice(a, times(2, 2, b))), l{"", "a", "bb", "abba", "bbbba"}, l{"b", "ab", "bbb", "abbb"}},
		{seq(times(0, -1, a), choice(a, b)), l{"a", "b", "aab", "aaa"}, l{"", "ba", "abb"}},
		{seq(times(0, -1, anyOf(every())), b), l{"b", "aab", "bb", "Xb"}, l{"", "a", "ba"}},
		{seq(times(0, 2, anyOf(these("u"))), times(1, -1, anyOf(these("")))), l{"a", "AAab", "Xx"}, l{"", "A", "AAAa", "AaA"}},
	} {
		for _, w := range c.yes {
			if !term.Word(c.t, names(w)) {
				t.Errorf("%q is a word of %s", w, tell(c.t))
			}
		}
		for _, w := range c.no {
			if term.Word(c.t, names(w)) {
				t.Errorf("%q is no word of %s", w, tell(c.t))
			}
		}
	}
}

func TestP1502All(t *testing.T) {
	a, b, c := elem("a"), elem("b"), elem("c")
	type l = []string
	for _, x := range []struct {
		t       term.Term
		yes, no l
		rows    [][]int
	}{
		{all(), l{""}, l{"a"}, [][]int{{}}}, {times(0, 1, all()), l{""}, l{"a"}, [][]int{{}}},
		{all(a), l{"a"}, l{"", "aa", "A", "b"}, [][]int{{0}}},
		{times(0, 1, all(a)), l{"", "a"}, l{"aa"}, [][]int{{}, {0}}},
		{all(a, b), l{"ab", "ba"}, l{"", "a", "b", "aa", "aba", "abc"}, [][]int{{0, 1}, {1, 0}}},
		{all(a, times(0, 1, b)), l{"a", "ab", "ba"}, l{"", "b", "bb", "abb"}, [][]int{{0}, {0, 1}, {1, 0}}},
		{all(times(0, 1, a), times(0, 1, b)), l{"", "a", "b", "ba"}, l{"aa", "bab"}, [][]int{{}, {0}, {1}, {1, 0}}},
		{all(times(0, 0, a), b), l{"b"}, l{"", "a", "ab", "ba"}, [][]int{{1}}},
		{all(times(0, 0, a)), l{""}, l{"a"}, [][]int{{}}},
		{times(0, 1, all(a, b, times(0, 1, c))), l{"", "ab", "cba", "acb"}, l{"a", "b", "c", "ac", "abca"}, [][]int{{}, {0, 1}, {2, 1, 0}, {0, 2, 1}}},
		{all(a, elem("u:a"), b), l{"aAb", "bAa", "Aab"}, l{"aab", "ab", "Ab", "aBb"}, [][]int{{0, 1, 2}, {2, 1, 0}, {1, 0, 2}}},
	} {
		for i, w := range x.yes {
			if !term.Word(x.t, names(w)) {
				t.Errorf("%q is a word of %s", w, tell(x.t))
			}
			if got := term.Paths(x.t, names(w)); len(got) != 1 || !slices.Equal(got[0], x.rows[i]) {
				t.Errorf("%q of %s: %v", w, tell(x.t), got)
			}
		}
		for _, w := range x.no {
			if term.Word(x.t, names(w)) || len(term.Paths(x.t, names(w))) > 0 {
				t.Errorf("%q is no word of %s", w, tell(x.t))
			}
		}
	}
}

// hold holds all that is asked of a term and a row to trying all cuts.
func hold(t *testing.T, x term.Term, w []api.Name) {
	t.Helper()
	rows := rowsOf(x, w)
	if got := term.Word(x, w); got != (len(rows) > 0) {
		t.Fatalf("Word %s %v: %v", tell(x), w, got)
	}
	if len(w) == 0 && term.Empties(x) != (len(rows) > 0) {
		t.Fatalf("Empties %s", tell(x))
	}
	want := rows[:min(len(rows), 64)]
	if got := term.Paths(x, w); !slices.EqualFunc(got, want, slices.Equal[[]int]) {
		t.Fatalf("Paths %s %v: %v; want %v", tell(x), w, got, want)
	}
}

// small answers all terms of two levels with few leaves and bounds.
func small() []term.Term {
	bounds := [][2]int{{1, 1}, {0, 1}, {0, -1}, {2, 2}, {1, 2}, {2, -1}, {0, 0}}
	var kids, out []term.Term
	for _, b := range bounds {
		kids = append(kids, times(b[0], b[1], elem("a")), times(b[0], b[1], elem("b")))
	}
	kids = append(kids, empty(), choice(), seq(elem("a"), elem("b")), choice(elem("a"), empty()), times(0, -1, anyOf(every())))
	for _, b := range bounds {
		for _, kind := range []int{term.Seq, term.Choice} {
			out = append(out, times(b[0], b[1], of(kind)))
			for _, k := range kids {
				out = append(out, times(b[0], b[1], of(kind, k)))
				for _, l := range kids {
					out = append(out, times(b[0], b[1], of(kind, k, l)))
				}
			}
		}
	}
	return out
}

// TestP1502EverySmallTerm: all short rows of all small terms.
func TestP1502EverySmallTerm(t *testing.T) {
	short := rowsUpTo(3, names("ab"))
	for _, x := range small() {
		for _, w := range short {
			hold(t, x, w)
		}
	}
}

// TestP1502AnyTerm: terms made at random, Alls too.
func TestP1502AnyTerm(t *testing.T) {
	d := newDice(1)
	met := 0
	for range 15000 {
		x := d.Top(1 + d.Throw(3))
		if size(x) > 40 {
			continue
		}
		for range 3 {
			w := d.row(5)
			if len(w) > 1 && term.Word(x, w) {
				met++
			}
			hold(t, x, w)
		}
		hold(t, x, nil)
	}
	if met < 1500 {
		t.Errorf("only %d words", met)
	}
}

// size answers how many leaves stand in a term that is written out.
func size(t term.Term) int {
	n := 1
	for _, k := range t.Kids {
		n += size(k)
	}
	return n * max(t.Max, t.Min, 1)
}

// TestP1502LongerRows: rows that are grown from a term, and such as are spoilt: of
// trees too great to try all cuts, Paths is held to Word, and each row to its leaves.
func TestP1502LongerRows(t *testing.T) {
	d := newDice(2)
	met := 0
	for range 25000 {
		x := d.Within(4)
		w := d.grow(x)
		next := 0
		if len(w) < 3 || len(w) > 12 || glush.Positions(expr(x, &next), api.MaxPos) > api.MaxPos {
			continue
		}
		met++
		if !term.Word(x, w) {
			t.Fatalf("%s: %v was grown", tell(x), w)
		}
		holdPaths(t, x, w)
		spoilt := slices.Clone(w)
		spoilt[d.Throw(len(w))] = names("abAX")[d.Throw(4)]
		holdPaths(t, x, spoilt)
	}
	if met < 2000 {
		t.Errorf("only %d rows", met)
	}
}

// grow answers a word of a term, or nil: there need be none.
func (d dice) grow(t term.Term) []api.Name {
	var w []api.Name
	n := t.Min
	if t.Max == -1 {
		n += d.Throw(3)
	} else {
		n += d.Throw(t.Max - t.Min + 1)
	}
	for range n {
		k := d.growOnce(t)
		if k == nil {
			return nil
		}
		w = append(w, k...)
	}
	return append([]api.Name{}, w...)
}

func (d dice) growOnce(t term.Term) []api.Name {
	switch t.Kind {
	case term.Elem, term.Any:
		for range 30 {
			if n := names("abAcXx")[d.Throw(6)]; hit(t, n) {
				return []api.Name{n}
			}
		}
		return nil
	case term.Choice:
		if len(t.Kids) == 0 {
			return nil
		}
		return d.grow(t.Kids[d.Throw(len(t.Kids))])
	}
	w := []api.Name{}
	for _, k := range t.Kids {
		l := d.grow(k)
		if l == nil {
			return nil
		}
		w = append(w, l...)
	}
	return w
}

// holdPaths holds Paths to Word: there is a row just if there is a word; each one is
// a word of the leaves' numbers; they rise; and so are the least ones of those that
// glush's automaton finds.
func holdPaths(t *testing.T, x term.Term, w []api.Name) {
	t.Helper()
	got := term.Paths(x, w)
	if (len(got) > 0) != term.Word(x, w) {
		t.Fatalf("%s %v: %v", tell(x), w, got)
	}
	next := 0
	a, err := glush.Build(expr(x, &next), api.MaxPos)
	if err != api.OK {
		t.Fatalf("%s: %v", tell(x), err)
	}
	var want [][]int
	walk(a, term.Leaves(x), w, nil, nil, &want)
	if !slices.EqualFunc(got, want, slices.Equal[[]int]) {
		t.Fatalf("Paths %s %v: %v; want %v", tell(x), w, got, want)
	}
}

// expr answers a term that is no All as glush's expression over its leaves' numbers.
func expr(t term.Term, next *int) glush.Expr {
	e := glush.Expr{Kind: glush.Seq}
	switch t.Kind {
	case term.Elem, term.Any:
		e = glush.Expr{Kind: glush.Sym, Sym: *next}
		*next++
	case term.Choice:
		e = glush.Expr{Kind: glush.Alt}
	}
	for _, k := range t.Kids {
		e.Kids = append(e.Kids, expr(k, next))
	}
	return glush.Expr{Kind: glush.Rep, Min: t.Min, Max: t.Max, Kids: []glush.Expr{e}}
}

// walk puts the least 64 rows into out, by the automaton's Steps.
func walk(a glush.Auto, leaves []term.Term, w []api.Name, at, row []int, out *[][]int) {
	if len(*out) == 64 {
		return
	}
	if len(w) == 0 {
		if a.Ends(at) {
			*out = append(*out, slices.Clone(row))
		}
		return
	}
	for i, leaf := range leaves {
		if hit(leaf, w[0]) {
			if next := a.Step(at, i); len(next) > 0 {
				walk(a, leaves, w[1:], next, append(slices.Clone(row), i), out)
			}
		}
	}
}

func TestP1502Paths(t *testing.T) {
	a, b := elem("a"), elem("b")
	type r = [][]int
	for _, c := range []struct {
		t    term.Term
		w    string
		want r
	}{
		{a, "a", r{{0}}}, {a, "", nil}, {a, "b", nil}, {empty(), "", r{{}}}, {seq(), "", r{{}}}, {choice(), "", nil}, {times(0, 0, a), "", r{{}}}, {times(0, 0, a), "a", nil},
		{seq(a, b), "ab", r{{0, 1}}}, {seq(times(0, 0, a), b), "b", r{{1}}}, {choice(b, choice(b, a)), "a", r{{2}}}, {choice(b, choice(b, a)), "b", r{{0}, {1}}},
		{seq(times(0, 1, a), times(0, 1, a)), "a", r{{0}, {1}}}, {seq(times(0, 1, a), times(0, 1, a)), "aa", r{{0, 1}}},
		{seq(times(0, -1, a), times(0, -1, a)), "aa", r{{0, 0}, {0, 1}, {1, 1}}},
		{times(0, -1, choice(a, a)), "aa", r{{0, 0}, {0, 1}, {1, 0}, {1, 1}}}, {times(2, 2, choice(a, seq(a, a))), "aaa", r{{0, 1, 2}, {1, 2, 0}}},
		// What leads to the same leaves in two ways is one row.
		{times(0, -1, seq(times(0, -1, seq(times(0, -1, a))))), "aaa", r{{0, 0, 0}}}, {times(2, 5, seq(times(0, 1, a))), "aa", r{{0, 0}}},
		{choice(anyOf(every()), a, elem("u:a"), anyOf(these("u"))), "A", r{{0}, {2}, {3}}}, {choice(anyOf(other("u")), anyOf(these()), elem("u:a")), "A", r{{2}}},
	} {
		// The numbers that leaves had are not asked.
		odd := c.t
		odd.Leaf = 77
		for _, x := range []term.Term{c.t, odd, term.Number(c.t)} {
			if got := term.Paths(x, names(c.w)); !slices.EqualFunc(got, c.want, slices.Equal[[]int]) {
				t.Errorf("%s %q: %v", tell(c.t), c.w, got)
			}
		}
	}
}

// TestP1502LeastRows: of more rows than are told the least ones are.
func TestP1502LeastRows(t *testing.T) {
	digits := func(n, base, size int) []int {
		row := make([]int, size)
		for i := size - 1; i >= 0; i-- {
			row[i] = n % base
			n /= base
		}
		return row
	}
	for _, c := range []struct{ base, size int }{{2, 5}, {2, 6}, {2, 7}, {2, 12}, {3, 3}, {3, 4}, {3, 12}, {63, 1}, {64, 1}, {65, 1}, {512, 1}, {512, 2}, {512, 12}, {40, 5}} {
		x := times(0, -1, choice(many(c.base, elem("a"))...))
		all := 1
		for range c.size {
			all = min(all*c.base, 1000)
		}
		got := term.Paths(x, slices.Repeat(names("a"), c.size))
		if len(got) != min(all, 64) {
			t.Fatalf("%d, %d: %d rows", c.base, c.size, len(got))
		}
		for i, row := range got {
			if !slices.Equal(row, digits(i, c.base, c.size)) {
				t.Fatalf("%d, %d: %d: %v", c.base, c.size, i, row)
			}
		}
	}
}

// TestP1502PathsOfSoMany: at the bounds and one more.
func TestP1502PathsOfSoMany(t *testing.T) {
	a, b := elem("a"), elem("b")
	as := func(n int) []api.Name { return slices.Repeat(names("a"), n) }
	opt := func(n int, l []term.Term) []term.Term {
		for i := range l[:n] {
			l[i].Min = 0
		}
		return l
	}
	for i, c := range []struct {
		t    term.Term
		w    []api.Name
		want int
	}{
		{times(0, -1, a), as(12), 1}, {times(0, -1, a), as(13), 0}, {times(0, -1, choice(a, a)), as(12), 64}, {times(0, -1, choice(a, a)), as(13), 0},
		{all(elems(12)...), elemNames(12), 1}, {all(elems(13)...), elemNames(13), 0},
		{times(0, 512, a), as(1), 1}, {times(0, 513, a), as(1), 0}, {times(0, 513, a), nil, 0}, {times(0, 512, a), nil, 1},
		{times(512, -1, choice(a, empty())), as(1), 1}, {times(513, -1, choice(a, empty())), as(1), 0}, {times(0, -1, seq(times(512, 512, seq(times(0, 1, a))))), as(2), 1},
		{times(0, 2, seq(times(256, 256, choice(a, empty())))), as(1), 1},
		{seq(times(0, 511, a), times(0, 1, b)), as(1), 1}, {seq(times(0, 511, a), times(0, 2, b)), as(1), 0}, {seq(times(0, 512, a), times(0, 0, b), empty()), as(1), 1},
		{choice(many(512, a)...), as(1), 64}, {choice(many(513, a)...), as(1), 0}, {choice(append(many(512, a), many(3000, times(0, 0, a))...)...), as(1), 64},
		{times(0, 2, choice(many(256, a)...)), as(1), 64}, {times(0, 2, choice(many(257, a)...)), as(1), 0}, {times(0, 0, choice(many(3000, a)...)), nil, 1},
		{all(opt(512, elems(512))...), elemNames(1), 1}, {all(opt(513, elems(513))...), elemNames(1), 0}, {times(0, 1, all(elems(512)...)), nil, 1}, {times(0, 1, all(elems(513)...)), nil, 0},
		{all(append(opt(512, elems(512)), times(0, 0, elem("x")))...), elemNames(1), 0}, {all(append(opt(511, elems(511)), times(0, 0, elem("x")))...), elemNames(1), 1},
		// As an expression it has more nodes than glush's Check takes.
		{seq(many(4095, times(0, 0, a))...), nil, 1}, {seq(append(many(3583, times(0, 0, a)), many(512, times(0, 1, a))...)...), as(1), 64},
		{deep(63, term.Seq, times(0, -1, a)), as(12), 1},
	} {
		got := term.Paths(c.t, c.w)
		if len(got) != c.want {
			t.Errorf("%d: %d rows; want %d", i, len(got), c.want)
		}
		if len(c.w) < 13 && len(got) == 0 && term.Check(c.t) == api.OK && !term.Word(c.t, c.w) {
			t.Errorf("%d: no word at all", i)
		}
	}
}

func elemNames(n int) []api.Name {
	var w []api.Name
	for _, x := range elems(n) {
		w = append(w, x.Name)
	}
	return w
}

// TestP1502LongWords: rows as long as a document has elements, and longer.
func TestP1502LongWords(t *testing.T) {
	a, b := elem("a"), elem("b")
	long := func(n int, text string) []api.Name { return slices.Repeat(names(text), n) }
	for i, c := range []struct {
		t    term.Term
		w    []api.Name
		want bool
	}{
		{times(0, -1, a), long(4096, "a"), true}, {times(0, -1, a), append(long(4096, "a"), names("b")...), false}, {times(0, -1, seq(a, b)), long(100000, "ab"), true}, {times(0, -1, seq(a, b)), append(long(100000, "ab"), names("a")...), false},
		{times(0, -1, seq(times(0, 1, a), times(0, 1, a), times(0, 1, a))), long(4096, "a"), true},
		{times(1000, 1000, seq(times(4, 4, a))), long(4000, "a"), true}, {times(1000, 1000, seq(times(4, 4, a))), long(4001, "a"), false}, {times(1000, 1000, seq(times(3, 5, a))), long(5000, "a"), true}, {times(1000, 1000, seq(times(3, 5, a))), long(2999, "a"), false},
		{times(1000, 1000, seq(times(1000, 1000, seq(times(1000, 1000, a))))), long(4000, "a"), false}, {times(1000, 1000, seq(times(1000, 1000, seq(times(0, 1000, a))))), long(4000, "a"), true}, {times(1000, 1000, seq(times(1000, 1000, seq(times(0, 1000, a))))), long(4000, "ab"), false},
		{deep(62, term.Choice, times(0, -1, choice(a, b))), long(4096, "ab"), true},
		{seq(many(2000, times(0, 1, a))...), long(2000, "a"), true}, {seq(many(2000, times(0, 1, a))...), long(2001, "a"), false},
		{seq(many(4095, a)...), long(4095, "a"), true}, {times(0, -1, choice(elems(512)...)), slices.Repeat(elemNames(512), 8), true},
		{seq(times(0, -1, anyOf(every())), b, times(7, 7, anyOf(these("")))), append(long(4000, "a"), names("baaaaaaa")...), true}, {seq(times(0, -1, anyOf(every())), b, times(7, 7, anyOf(these("")))), append(long(4000, "a"), names("baaaAaaa")...), false},
		{all(elems(4095)...), elemNames(4095), true}, {all(elems(4095)...), elemNames(4094), false}, {all(elems(4094)...), append(elemNames(4094), name("e1007")), false},
	} {
		if got := term.Word(c.t, c.w); got != c.want {
			t.Errorf("%d: %v", i, got)
		}
	}
	w := elemNames(4095)
	slices.Reverse(w)
	if !term.Word(all(elems(4095)...), w) {
		t.Error("an All backward")
	}
}

// TestP1502ManySpaces: wildcards and rows of thousands of spaces.
func TestP1502ManySpaces(t *testing.T) {
	var w []api.Name
	var spaces []string
	for i := range 3000 {
		w = append(w, api.Name{Space: strconv.Itoa(10000 + i), Local: "a"})
		spaces = append(spaces, strconv.Itoa(10000+i))
	}
	if !term.Word(times(0, -1, anyOf(these(spaces...))), w) || term.Word(times(0, -1, anyOf(these(spaces[1:]...))), w) || !term.Word(times(0, -1, choice(anyOf(these(spaces[1:]...)), elem(spaces[0]+":a"))), w) {
		t.Error("a wildcard of many spaces")
	}
	var l []term.Term
	for _, s := range spaces {
		l = append(l, anyOf(these(s)))
	}
	if !term.Word(seq(l...), w) || term.Word(seq(append(l[1:], l[0])...), w) {
		t.Error("many wildcards")
	}
}

func TestP1502Least(t *testing.T) {
	a := elem("a")
	for _, c := range []struct {
		t    term.Term
		want int
	}{
		{a, 1}, {anyOf(every()), 1}, {anyOf(these()), 1}, {times(2, 2, anyOf(these())), 2}, {empty(), 0}, {times(1000, -1, empty()), 0}, {seq(), 0}, {choice(), -1}, {times(0, 1, choice()), 0}, {times(0, 0, choice()), 0}, {times(1, -1, choice()), -1}, {times(1000, 1000, choice()), -1},
		{times(0, 5, a), 0}, {times(3, -1, a), 3}, {times(0, 0, a), 0}, {seq(a, a, times(2, 3, a)), 4}, {seq(a, choice()), -1}, {seq(choice(), a), -1}, {seq(a, times(0, 7, choice())), 1},
		{choice(times(3, 3, a), times(2, 2, a), times(4, 4, a)), 2}, {choice(choice(), times(3, 3, a)), 3}, {choice(times(3, 3, a), choice()), 3}, {choice(choice(), seq(choice())), -1}, {choice(a, empty()), 0}, {choice(choice(), empty()), 0},
		{times(3, 4, choice(times(5, 5, a), times(4, 9, a))), 12}, {all(), 0}, {all(a, elem("b"), times(0, 1, elem("c")), times(0, 0, elem("d"))), 2}, {times(0, 1, all(a)), 0}, {all(elems(4095)...), 4095},
		{times(1000, 1000, seq(times(1000, 1000, a))), 1000000}, {times(1000, 1000, seq(times(1000, 1000, seq(a, a)))), 1 << 20}, {seq(times(1000, -1, seq(times(1000, 1000, a))), times(48, 48, seq(times(1000, 1000, a))), times(576, 576, a)), 1 << 20},
		{seq(times(1000, -1, seq(times(1000, 1000, a))), times(48, 48, seq(times(1000, 1000, a))), times(575, 575, a)), 1<<20 - 1}, {seq(times(1000, -1, seq(times(1000, 1000, a))), times(48, 48, seq(times(1000, 1000, a))), times(577, 577, a)), 1 << 20},
		{choice(times(1000, 1000, seq(times(1000, 1000, seq(a, a)))), times(999, 999, a)), 999}, {seq(times(1000, 1000, seq(times(1000, 1000, seq(a, a)))), choice()), -1},
		{times(0, 1, seq(times(1000, 1000, seq(times(1000, 1000, seq(a, a)))))), 0},
	} {
		if got := term.Least(c.t); got != c.want {
			t.Errorf("%s: %d; want %d", tell(c.t), got, c.want)
		}
		if got := term.Empties(c.t); got != (c.want == 0) {
			t.Errorf("%s: Empties: %v", tell(c.t), got)
		}
	}
	if got := term.Least(deepTimes(60, 1000, a)); got != 1<<20 {
		t.Errorf("within one another: %d", got)
	}
	if got := term.Least(seq(many(60, deepTimes(60, 1000, a))...)); got != 1<<20 {
		t.Errorf("one behind the other: %d", got)
	}
}

// deepTimes answers n times of n times of t.
func deepTimes(levels, n int, t term.Term) term.Term {
	for range levels {
		t = times(n, n, seq(t))
	}
	return t
}

// TestP1502LeastWord: terms made at random have a word of Least names, and none of
// fewer: of terms whose wildcards allow something.
func TestP1502LeastWord(t *testing.T) {
	d := newDice(3)
	alphabet := append(names("abAc"), name("v:c"))
	met := map[int]int{}
	for range 6000 {
		x := d.Top(3)
		if slices.ContainsFunc(term.Leaves(x), func(l term.Term) bool { return l.Kind == term.Any && len(l.W.Spaces) == 0 && l.W.How == 3 }) {
			continue
		}
		want := -1
		for _, w := range rowsUpTo(4, alphabet) {
			if term.Word(x, w) {
				want = len(w)
				break
			}
		}
		got := term.Least(x)
		met[want]++
		if got != want && !(want == -1 && got > 4) {
			t.Fatalf("%s: %d; want %d", tell(x), got, want)
		}
		if term.Empties(x) != (want == 0) {
			t.Fatalf("%s: Empties", tell(x))
		}
	}
	for n := -1; n <= 3; n++ {
		if met[n] < 20 {
			t.Errorf("only %d of %d", met[n], n)
		}
	}
}
