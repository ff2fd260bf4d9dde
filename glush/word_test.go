package glush_test

import (
	"runtime/debug"
	"slices"
	"testing"

	"rubric/api"
	"rubric/glush"
)

// is says the meaning by trying all ways to cut w.
func is(e glush.Expr, w []int) bool {
	switch e.Kind {
	case glush.Empty:
		return len(w) == 0
	case glush.Sym:
		return len(w) == 1 && w[0] == e.Sym
	case glush.Seq:
		return isRow(e.Kids, w)
	case glush.Alt:
		return slices.ContainsFunc(e.Kids, func(k glush.Expr) bool { return is(k, w) })
	case glush.Rep:
		most := e.Max
		if most == -1 {
			// More words than letters and Min are more empty ones.
			most = e.Min + len(w)
		}
		for n := e.Min; n <= most; n++ {
			if isRow(times(n, e.Kids[0]), w) {
				return true
			}
		}
	}
	return false
}

func isRow(l []glush.Expr, w []int) bool {
	if len(l) == 0 {
		return len(w) == 0
	}
	for i := range len(w) + 1 {
		if is(l[0], w[:i]) && isRow(l[1:], w[i:]) {
			return true
		}
	}
	return false
}

// wordsOf answers all words of at most that many of the first symbols.
func wordsOf(most, syms int) [][]int {
	out := [][]int{{}}
	for from := 0; len(out[from]) < most; from++ {
		for s := range syms {
			out = append(out, append(slices.Clone(out[from]), s))
		}
	}
	return out
}

func TestP901Word(t *testing.T) {
	type l = []int
	a, b := sym(1), sym(2)
	for _, c := range []struct {
		e       glush.Expr
		yes, no []l
	}{
		{empty(), []l{nil, {}}, []l{{0}, {1}}},
		{none(), nil, []l{nil, {}, {0}, {1}}},
		{seq(), []l{nil, {}}, []l{{0}}},
		{alt(), nil, []l{nil, {0}}},
		{a, []l{{1}}, []l{nil, {0}, {2}, {-1}, {1, 1}, {1, 2}, {2, 1}}},
		{sym(0), []l{{0}}, []l{nil, {1}, {-1}}},
		{with(a, b), []l{{1}}, []l{nil, {2}, {1, 2}}},
		{with(empty(), b), []l{nil}, []l{{2}}},
		{with(none(), empty()), nil, []l{nil}},
		{seq(a, b), []l{{1, 2}}, []l{nil, {1}, {2}, {2, 1}, {1, 2, 1}}},
		{seq(a, none()), nil, []l{nil, {1}}}, {seq(none(), a), nil, []l{nil, {1}}},
		{seq(empty(), a, empty()), []l{{1}}, []l{nil, {1, 1}}},
		{alt(a, b), []l{{1}, {2}}, []l{nil, {1, 2}, {3}}},
		{alt(a, seq(a, b)), []l{{1}, {1, 2}}, []l{nil, {2}, {1, 1, 2}}},
		{alt(none(), a), []l{{1}}, []l{nil}},
		{rep(0, 0, a), []l{nil}, []l{{1}}}, {rep(0, 0, none()), []l{nil}, []l{{1}}},
		{rep(0, 1, a), []l{nil, {1}}, []l{{2}, {1, 1}}},
		{rep(2, 3, a), []l{{1, 1}, {1, 1, 1}}, []l{nil, {1}, {1, 1, 1, 1}, {1, 2}, {2, 1, 1}}},
		{rep(2, -1, a), []l{{1, 1}, {1, 1, 1}, {1, 1, 1, 1, 1, 1, 1, 1, 1}}, []l{nil, {1}, {1, 1, 2}}},
		{rep(0, -1, a), []l{nil, {1}, {1, 1}}, []l{{2}, {1, 2}}},
		{rep(2, 2, alt(a, seq(a, a))), []l{{1, 1}, {1, 1, 1}, {1, 1, 1, 1}}, []l{nil, {1}, {1, 1, 1, 1, 1}}},
		{rep(3, 4, alt(seq(a, b), empty())), []l{nil, {1, 2}, {1, 2, 1, 2, 1, 2, 1, 2}}, []l{{1}, {1, 2, 1, 2, 1, 2, 1, 2, 1, 2}}},
		{rep(0, 5, none()), []l{nil}, []l{{1}}}, {rep(1, 5, none()), nil, []l{nil, {1}}}, {rep(0, -1, none()), []l{nil}, []l{{1}}}, {rep(2, -1, none()), nil, []l{nil}},
		{rep(1000, 1000, empty()), []l{nil}, []l{{1}}}, {rep(1000, -1, rep(0, 1, a)), []l{nil, {1}, {1, 1}}, []l{{2}}},
	} {
		for _, w := range c.yes {
			if !glush.Word(c.e, w) || !built0(t, c.e).Word(w) {
				t.Errorf("%v is a word of %s", w, tell(c.e))
			}
		}
		for _, w := range c.no {
			if glush.Word(c.e, w) || built0(t, c.e).Word(w) {
				t.Errorf("%v is no word of %s", w, tell(c.e))
			}
		}
	}
}

// built0 answers an automaton of the expression, with numbers of more than 500 cut
// to what a short word can't tell from them.
func built0(t *testing.T, e glush.Expr) glush.Auto {
	t.Helper()
	if e.Kind == glush.Rep {
		e.Min, e.Max = min(e.Min, 400), min(e.Max, 400)
	}
	return built(t, e)
}

// TestP904Words holds both Words against the meaning: all short words of
// all small expressions, and of thrown ones.
func TestP904Words(t *testing.T) {
	short := wordsOf(4, 2)
	for _, e := range small() {
		checkWords(t, e, short)
	}
	d := dice(6)
	short = wordsOf(3, 3)
	for range 1500 {
		if e := d.expr(3); glush.Positions(e, 60) <= 60 {
			checkWords(t, e, short)
		}
	}
}

func checkWords(t *testing.T, e glush.Expr, words [][]int) {
	t.Helper()
	a := built(t, e)
	for _, w := range words {
		want := is(e, w)
		if got := glush.Word(e, w); got != want {
			t.Fatalf("Word(%s, %v): %v", tell(e), w, got)
		}
		if got := a.Word(w); got != want {
			t.Fatalf("a.Word of %s: %v: %v", tell(e), w, got)
		}
	}
}

// walk answers a word by way of an automaton, and one that is spoilt.
func (d *roll) walk(a glush.Auto, most int) (good, spoilt []int) {
	at := a.First
	for range d.throw(most) + 1 {
		if len(at) == 0 {
			break
		}
		p := at[d.throw(len(at))]
		good, at = append(good, a.Syms[p]), a.Follow[p]
	}
	spoilt = append(slices.Clone(good), d.throw(3))
	i := d.throw(len(spoilt))
	switch d.throw(3) {
	case 0:
		spoilt[i] = d.throw(3)
	case 1:
		spoilt = slices.Delete(spoilt, i, i+1)
	case 2:
		spoilt = slices.Insert(spoilt, i, d.throw(3))
	}
	return good, spoilt
}

// TestP904LongWords holds both Words against each other, of expressions and words
// that are too great to try all ways.
func TestP904LongWords(t *testing.T) {
	d := dice(7)
	yes, no := 0, 0
	for range 6000 {
		e := seq(d.expr(5), d.expr(3))
		if glush.Positions(e, api.MaxPos) > api.MaxPos {
			continue
		}
		a := built(t, e)
		for range 5 {
			good, spoilt := d.walk(a, 150)
			for _, w := range [][]int{good, spoilt} {
				got := a.Word(w)
				if got != glush.Word(e, w) {
					t.Fatalf("%s: %v: %v", tell(e), w, got)
				}
				if got && len(w) > 2 {
					yes++
				} else if !got && len(w) > 2 {
					no++
				}
			}
		}
	}
	if yes < 500 || no < 500 {
		t.Errorf("only %d words, %d others", yes, no)
	}
}

// reps answers Reps within Reps.
func (d *roll) reps(depth int) glush.Expr {
	if depth == 0 {
		return d.expr(1)
	}
	l := []glush.Expr{d.expr(0), d.reps(depth - 1), d.expr(0)}[d.throw(2) : 2+d.throw(2)]
	low, high := d.bounds()
	return rep(low, high, []glush.Expr{seq(l...), alt(l...), l[0]}[d.throw(3)])
}

// TestP904RepsWithinReps: what is known of one set of places is not taken for
// another.
func TestP904RepsWithinReps(t *testing.T) {
	d := dice(11)
	yes, no := 0, 0
	for range 12000 {
		e := d.reps(3 + d.throw(3))
		if p := glush.Positions(e, api.MaxPos); p < 4 || p > api.MaxPos {
			continue
		}
		a := built(t, e)
		for range 4 {
			good, spoilt := d.walk(a, 140)
			for _, w := range [][]int{good, spoilt} {
				got := a.Word(w)
				if got != glush.Word(e, w) {
					t.Fatalf("%s: %v: %v", tell(e), w, got)
				}
				if got && len(w) > 64 {
					yes++
				} else if !got && len(w) > 64 {
					no++
				}
			}
		}
	}
	if yes < 500 || no < 500 {
		t.Errorf("only %d words, %d others", yes, no)
	}
}

// TestP904Numbers: of Reps with great numbers, each number of letters near them.
func TestP904Numbers(t *testing.T) {
	a := sym(9)
	two := seq(a, a)
	for _, c := range []struct {
		e  glush.Expr
		is func(n int) bool
	}{
		{rep(512, 512, a), func(n int) bool { return n == 512 }},
		{rep(100, 512, a), func(n int) bool { return n >= 100 && n <= 512 }},
		{rep(0, 512, a), func(n int) bool { return n <= 512 }},
		{rep(500, -1, a), func(n int) bool { return n >= 500 }},
		{rep(0, 256, two), func(n int) bool { return n <= 512 && n%2 == 0 }},
		{rep(64, -1, two), func(n int) bool { return n >= 128 && n%2 == 0 }},
		{rep(16, 16, rep(32, 32, a)), func(n int) bool { return n == 512 }},
		{rep(16, 16, rep(0, 32, a)), func(n int) bool { return n <= 512 }},
		{rep(3, 5, rep(50, 60, a)), func(n int) bool { return n >= 150 && n <= 180 || n >= 200 && n <= 240 || n >= 250 && n <= 300 }},
		{rep(0, -1, alt(rep(7, 7, a), rep(11, 11, a))), func(n int) bool { return sum(n, 7, 11) }},
		{rep(2, -1, rep(3, -1, rep(4, 5, a))), func(n int) bool { return n >= 24 }},
	} {
		auto, at := built(t, c.e), []int(nil)
		w := slices.Repeat([]int{9}, 601)
		for n := range w {
			if got := auto.Ends(at); got != c.is(n) {
				t.Errorf("a.Ends of %s: %d letters: %v", tell(c.e), n, got)
			}
			at = auto.Step(at, 9)
			if n%50 < 2 && auto.Word(w[:n]) != c.is(n) {
				t.Errorf("a.Word of %s: %d letters: %v", tell(c.e), n, !c.is(n))
			}
			if got := glush.Word(c.e, w[:n]); got != c.is(n) {
				t.Errorf("Word(%s, %d letters): %v", tell(c.e), n, got)
			}
		}
	}
}

// sum answers whether n is a sum of as and bs.
func sum(n, a, b int) bool {
	for n >= 0 && n%a != 0 {
		n -= b
	}
	return n >= 0
}

// TestP901WordOfManyPositions: Word is no matter of positions.
func TestP901WordOfManyPositions(t *testing.T) {
	a, w := sym(1), slices.Repeat([]int{1}, 5000)
	for _, c := range []struct {
		e    glush.Expr
		most int
	}{{rep(1000, 1000, a), 1000}, {rep(5, 5, rep(900, 900, a)), 4500}, {seq(times(4000, a)...), 4000}, {seq(rep(1000, 1000, a), rep(1000, -1, a)), -1}, {rep(1000, 1000, rep(1000, 1000, a)), 1000000}} {
		for _, n := range []int{0, 999, 1000, 1001, 1999, 2000, 3999, 4000, 4001, 4499, 4500, 4501, 5000} {
			want := n == c.most || c.most == -1 && n >= 2000
			if got := glush.Word(c.e, w[:n]); got != want {
				t.Errorf("Word(%.50s, %d): %v", tell(c.e), n, got)
			}
		}
	}
}

func TestP903Step(t *testing.T) {
	type l = []int
	a := built(t, seq(rep(0, -1, alt(sym(1), seq(sym(1), sym(2)))), sym(1), rep(0, 2, sym(3)))) // (1|12)* 1 (3(3)?)?
	if !slices.Equal(a.Syms, l{1, 1, 2, 1, 3, 3}) {
		t.Fatal(a.Syms)
	}
	for _, c := range []struct {
		from []int
		sym  int
		want []int
	}{
		{nil, 1, l{0, 1, 3}}, {nil, 2, l{}}, {nil, 3, l{}}, {nil, -1, l{}}, {nil, 0, l{}},
		{l{}, 1, l{}}, {l{}, 2, l{}},
		{l{0}, 1, l{0, 1, 3}}, {l{0}, 2, l{}}, {l{1}, 2, l{2}}, {l{1}, 1, l{}}, {l{2}, 1, l{0, 1, 3}}, {l{3}, 3, l{4}}, {l{4}, 3, l{5}}, {l{5}, 3, l{}},
		{l{0, 1, 3}, 1, l{0, 1, 3}}, {l{0, 1, 3}, 2, l{2}}, {l{0, 1, 3}, 3, l{4}}, {l{3, 4}, 3, l{4, 5}}, {l{4, 3, 4, 3}, 3, l{4, 5}}, {l{5}, 1, l{}},
	} {
		if got := a.Step(c.from, c.sym); got == nil || !slices.Equal(got, c.want) {
			t.Errorf("Step(%v, %d): %v; want %v", c.from, c.sym, got, c.want)
		}
	}
}

func TestP903Ends(t *testing.T) {
	type l = []int
	a, b := built(t, seq(sym(1), rep(0, 2, sym(3)))), built(t, rep(0, -1, seq(sym(1), sym(2))))
	for _, c := range []struct {
		a    glush.Auto
		at   []int
		want bool
	}{
		{a, nil, false}, {a, l{}, false}, {a, l{0}, true}, {a, l{1}, true}, {a, l{2}, true}, {a, l{0, 1, 2}, true},
		{b, nil, true}, {b, l{}, false}, {b, l{0}, false}, {b, l{1}, true}, {b, l{0, 1}, true}, {b, l{1, 0}, true}, {b, l{0, 0}, false},
		{built(t, empty()), nil, true}, {built(t, empty()), l{}, false}, {built(t, none()), nil, false}, {built(t, none()), l{}, false},
	} {
		if got := c.a.Ends(c.at); got != c.want {
			t.Errorf("Ends(%v) of %v: %v", c.at, c.a, got)
		}
	}
}

// TestP903ByTheLists holds Step and Ends against First, Last and Follow, and Word
// against them.
func TestP903ByTheLists(t *testing.T) {
	d := dice(8)
	for range 3000 {
		e := d.expr(4)
		if glush.Positions(e, 100) > 100 {
			continue
		}
		a := built(t, e)
		var from []int
		for range d.throw(6) {
			if len(a.Syms) > 0 {
				from = append(from, d.throw(len(a.Syms)))
			}
		}
		for _, from := range [][]int{nil, {}, from} {
			for s := range 4 {
				checkStep(t, a, from, s)
			}
		}
		for _, w := range wordsOf(3, 3) {
			at := []int(nil)
			for _, s := range w {
				at = a.Step(at, s)
			}
			if a.Word(w) != a.Ends(at) {
				t.Fatalf("a.Word of %s: %v: %v", tell(e), w, a.Word(w))
			}
		}
	}
}

func checkStep(t *testing.T, a glush.Auto, from []int, s int) {
	t.Helper()
	want, ends := []int{}, a.Nullable
	for p := range a.Syms {
		may := slices.Contains(a.First, p)
		if from != nil {
			may = slices.ContainsFunc(from, func(q int) bool { return slices.Contains(a.Follow[q], p) })
		}
		if may && a.Syms[p] == s {
			want = append(want, p)
		}
	}
	if from != nil {
		ends = slices.ContainsFunc(from, func(q int) bool { return slices.Contains(a.Last, q) })
	}
	if got := a.Step(from, s); got == nil || !slices.Equal(got, want) {
		t.Fatalf("Step(%v, %d) of %v: %v; want %v", from, s, a, got, want)
	}
	if got := a.Ends(from); got != ends {
		t.Fatalf("Ends(%v) of %v: %v", from, a, got)
	}
}

func TestP903Live(t *testing.T) {
	a := sym(1)
	for _, c := range []struct {
		e    glush.Expr
		want bool
	}{
		{empty(), true}, {none(), false}, {seq(), true}, {alt(), false}, {a, true}, {seq(a, a), true},
		{seq(a, none()), false}, {seq(none(), a), false}, {seq(a, none(), a), false}, {seq(a, alt(), a), false}, {alt(seq(a, none()), seq(none(), a)), false}, {alt(seq(a, none()), a), true}, {alt(seq(a, none()), empty()), true},
		{rep(0, 1, none()), true}, {rep(1, 1, none()), false}, {rep(0, 0, none()), true}, {rep(0, -1, seq(a, none())), true}, {rep(1, -1, seq(a, none())), false}, {rep(2, 2, seq(none(), a)), false},
		{seq(rep(0, -1, seq(a, none(), a)), a), true}, {seq(a, rep(1, -1, seq(a, none(), a))), false}, {rep(512, 512, a), true}, {seq(rep(511, 511, a), none(), a), false},
	} {
		if got := built(t, c.e).Live(); got != c.want {
			t.Errorf("Live of %s: %v", tell(c.e), got)
		}
	}
}

// TestP1RepsWithinReps: as many ways to cut a word, or copies to write out, as
// there are, every call ends.
func TestP1RepsWithinReps(t *testing.T) {
	defer debug.SetMaxStack(debug.SetMaxStack(8 << 20))
	a, b := sym(1), sym(2)
	for _, bounds := range [][2]int{{0, -1}, {1, -1}, {0, 1}, {1, 1}, {0, 2}, {1, 2}, {2, 2}, {0, 1000}, {500, 1000}, {1000, 1000}, {1000, -1}} {
		once := func(e glush.Expr) glush.Expr { return rep(bounds[0], bounds[1], e) }
		for i, wrap := range []func(glush.Expr) glush.Expr{
			once,
			func(e glush.Expr) glush.Expr { return once(alt(e, a)) },
			func(e glush.Expr) glush.Expr { return once(seq(e, rep(0, 1, b))) },
			func(e glush.Expr) glush.Expr { return seq(once(e), once(alt(a, b, seq(a, a)))) },
		} {
			for _, inner := range []glush.Expr{empty(), none(), a, rep(0, 1, a), alt(a, seq(a, b))} {
				e := nested(98, inner, wrap)
				if glush.Check(e) != api.OK {
					t.Fatalf("%d is not taken", i)
				}
				auto, err := glush.Build(e, api.MaxPos)
				for _, w := range [][]int{nil, {1}, {2}, {1, 2}, {1, 1, 1}, {1, 2, 1, 2, 1, 1, 2}, slices.Repeat([]int{1}, 40)} {
					if got := glush.Word(e, w); err == api.OK && got != auto.Word(w) {
						t.Errorf("%v, %d, %s: %v: %v", bounds, i, tell(inner), w, got)
					}
				}
			}
		}
	}
	// 1000 to the 199th copies without a position.
	deep := nested(199, empty(), func(e glush.Expr) glush.Expr { return rep(1000, 1000, e) })
	if got := built(t, deep); !sameAuto(got, glush.Auto{Nullable: true}) || !glush.Word(deep, nil) || glush.Word(deep, []int{0}) {
		t.Errorf("Build: %v", got)
	}
	if got := built(t, rep(512, 512, seq(append(times(2000, rep(1000, 1000, none())), a)...))); len(got.Syms) != 512 || got.Live() {
		t.Errorf("Build: %v", got)
	}
	if got := built(t, rep(512, 512, seq(append(times(4000, empty()), a)...))); len(got.Syms) != 512 || !got.Live() {
		t.Errorf("Build: %v", got)
	}
}

// TestP1LongWords: no word is too long.
func TestP1LongWords(t *testing.T) {
	const n = 1000000
	w := slices.Repeat([]int{1, 2}, n/2)
	a, b := sym(1), sym(2)
	for _, e := range []glush.Expr{rep(0, -1, seq(a, b)), rep(0, -1, alt(a, b)), rep(0, -1, alt(a, empty(), b)), rep(7, -1, seq(rep(1, 1, a), rep(0, 1, b))), rep(1000, -1, alt(a, seq(a, b), seq(b, a), b)), rep(0, -1, rep(0, -1, alt(a, b)))} {
		auto, err := glush.Build(e, api.MaxPos)
		for _, c := range []struct {
			w    []int
			want bool
		}{{w, true}, {append(slices.Clone(w), 3), false}} {
			if got := glush.Word(e, c.w); got != c.want {
				t.Errorf("Word(%s): %v", tell(e), got)
			}
			if got := auto.Word(c.w); err == api.OK && got != c.want {
				t.Errorf("a.Word of %s: %v", tell(e), got)
			}
		}
	}
}
