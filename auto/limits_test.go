package auto_test

import (
	"slices"
	"strconv"
	"testing"
	"time"

	"rubric/api"
	"rubric/auto"
	"rubric/glush"
	"rubric/term"
)

// pairs answers n to least times a once or twice and b maybe: how many of them there
// are behind a row of names may be any number of a range, by each of which the state
// is another one.
func pairs(least, n int) term.Term {
	return times(least, n, seq(times(1, 2, elem("a")), maybe(elem("b"))))
}

// tooManyStates answers a term that has no other fault.
func tooManyStates() term.Term { return pairs(0, 60) }

// states answers how many states there are, by glush's automaton, if each name is
// one leaf's.
func states(t term.Term) int {
	a, _ := glush.Build(auto.Expr(t), api.MaxPos)
	met := map[string]int{"": 1}
	for open := [][]int{nil}; len(open) > 0; open = open[1:] {
		for sym := range len(term.Leaves(t)) {
			to := a.Step(open[0], sym)
			key := ""
			for _, p := range to {
				key += strconv.Itoa(p) + " "
			}
			if len(to) > 0 && met[key] == 0 {
				met[key]++
				open = append(open, to)
			}
		}
	}
	return len(met)
}

// TestP1601States: 2048 unlike states are taken, one more is not.
func TestP1601States(t *testing.T) {
	for _, c := range []struct {
		t      term.Term
		states int
		err    api.Errno
	}{
		{elem("a"), 2, api.OK}, {times(0, 0, elem("a")), 1, api.OK}, {times(0, -1, elem("a")), 2, api.OK}, {pairs(0, 1), 4, api.OK},
		{pairs(0, 44), 2025, api.OK}, {pairs(44, 44), 2025, api.OK}, {pairs(0, 45), 2116, api.ErrMany},
		{seq(append([]term.Term{pairs(0, 44)}, elems(22)...)...), 2047, api.OK},
		{seq(append([]term.Term{pairs(0, 44)}, elems(23)...)...), 2048, api.OK},
		{seq(append([]term.Term{pairs(0, 44)}, elems(24)...)...), 2049, api.ErrMany},
		{choice(append([]term.Term{pairs(0, 44)}, elems(23)...)...), 2048, api.OK},
		{choice(append([]term.Term{pairs(0, 44)}, elems(24)...)...), 2049, api.ErrMany},
		// A state is counted once, however many names lead to it.
		{choice(append([]term.Term{pairs(0, 44), anyOf(these("u", "v", "w", "x"))}, elems(22)...)...), 2048, api.OK},
		{choice(append([]term.Term{pairs(0, 44), anyOf(other("u"))}, elems(23)...)...), 2049, api.ErrMany},
		// What no name leads to is none.
		{choice(append([]term.Term{pairs(0, 44), anyOf(these()), anyOf(these())}, elems(23)...)...), 2050, api.OK},
	} {
		if got := states(c.t); got != c.states {
			t.Errorf("%.90s has %d states; want %d", tell(c.t), got, c.states)
		}
		if m, err := auto.Compile(c.t, api.MaxPos); err != c.err || (m == nil) != (err != api.OK) {
			t.Errorf("%.90s: %v; want %v", tell(c.t), err, c.err)
		}
	}
}

// TestP1601WhicheverComesFirst: to come to too many states, or to a name that is two
// leaves': breadth first, names rising.
func TestP1601WhicheverComesFirst(t *testing.T) {
	x, y, z := elem("x"), elem("y"), elem("z")
	twice := choice(z, z)
	// The long row ends behind the last state of the pairs: it is left when 2047
	// states were come to.
	var row []term.Term
	for i := range 111 {
		row = append(row, elem("r"+strconv.Itoa(1000+i)))
	}
	behind := func(l ...term.Term) term.Term {
		return seq(slices.Concat([]term.Term{pairs(43, 43)}, row, []term.Term{choice(l...)})...)
	}
	if n := states(behind(empty())); n != 2047 {
		t.Fatalf("%d states", n)
	}
	early := pairs(0, 60)
	for i, c := range []struct {
		t   term.Term
		err api.Errno
	}{
		{behind(x), api.OK}, {behind(x, y), api.ErrMany}, {behind(x, x), api.ErrNot},
		// In the order of names, whatever the leaves'.
		{behind(x, y, z, z), api.ErrMany}, {behind(z, z, y, x), api.ErrMany}, {behind(x, y, y), api.ErrNot}, {behind(y, y, x), api.ErrNot},
		{behind(x, x, y, z), api.ErrNot}, {behind(z, y, x, x), api.ErrNot}, {behind(y, z, elem("A:z"), elem("A:z")), api.ErrMany}, {behind(y, z, z), api.ErrNot},
		{behind(y, anyOf(these("A")), elem("A:z")), api.ErrMany}, {behind(elem("A:b"), elem("A:c"), elem("A:c"), elem("B:a")), api.ErrNot},
		// What is behind a state comes when its turn does.
		{behind(seq(x, twice)), api.ErrNot}, {behind(seq(x, twice), y), api.ErrMany}, {behind(seq(x, twice), y, y), api.ErrNot},
		{seq(early, twice), api.ErrNot}, {seq(pairs(60, 60), twice), api.ErrNot}, {seq(pairs(60, 60), times(150, 150, elem("r")), twice), api.ErrMany}, {choice(early, twice), api.ErrNot},
		{seq(elem("r"), early, twice), api.ErrNot}, {seq(times(90, 90, elem("r")), choice(pairs(0, 60), seq(elem("r"), twice))), api.ErrNot},
		{choice(pairs(0, 60), seq(times(150, 150, elem("r")), twice)), api.ErrMany},
	} {
		if m, err := auto.Compile(c.t, api.MaxPos); m != nil && err != api.OK || err != c.err {
			t.Errorf("%d: %v; want %v", i, err, c.err)
		}
	}
}

// TestP1601AnyOrderIsAskedNoMore: an All has more unlike states than may be.
func TestP1601AnyOrderIsAskedNoMore(t *testing.T) {
	m := must(t, all(elems(40)...))
	s := m.Begin()
	for i := 39; i >= 0; i-- {
		var leaf int
		if s, leaf = m.Step(s, name("e"+strconv.Itoa(1000+i))); leaf != i || len(s.Seen) != 40-i || m.Accepts(s) != (i == 0) {
			t.Fatalf("%d: %+v, %d", i, s, leaf)
		}
	}
}

// TestP1ItEnds: the greatest terms, and words that are long, in time.
func TestP1ItEnds(t *testing.T) {
	start := time.Now()
	a := elem("a")
	var maybes, anys, spaces []term.Term
	for i, e := range elems(300) {
		maybes = append(maybes, maybe(e))
		anys = append(anys, maybe(anyOf(these("s"+strconv.Itoa(1000+i)))))
	}
	for i := range 512 {
		var l []string
		for j := range 60 {
			l = append(l, strconv.Itoa(1000+i)+"."+strconv.Itoa(1000+j))
		}
		spaces = append(spaces, anyOf(these(l...)))
	}
	wide := times(0, -1, choice(elems(512)...))
	for i, x := range []struct {
		t   term.Term
		err api.Errno
	}{
		{seq(append([]term.Term{pairs(0, 60)}, maybes...)...), api.ErrMany}, {seq(append([]term.Term{pairs(0, 44)}, maybes[:23]...)...), api.OK},
		{seq(append([]term.Term{pairs(0, 60)}, anys...)...), api.ErrMany},
		{choice(spaces...), api.OK}, {times(0, -1, choice(spaces...)), api.OK}, {seq(spaces...), api.OK},
		{wide, api.OK}, {times(0, 512, a), api.OK}, {times(0, -1, times(0, 512, a)), api.OK}, {deep(63, term.Choice, times(0, -1, a)), api.OK},
		{all(elems(512)...), api.OK},
	} {
		m, err := auto.Compile(x.t, api.MaxPos)
		if err != x.err {
			t.Errorf("%d: %v", i, err)
		}
		if m != nil {
			m.Word(slices.Repeat(names("a"), 4096))
			m.Word(slices.Repeat(names("e1511"), 4096))
			m.Next(m.Begin())
		}
	}
	if took := time.Since(start); took > time.Minute {
		t.Errorf("%v", took)
	}
}
