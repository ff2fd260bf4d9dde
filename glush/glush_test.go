package glush_test

import (
	"fmt"
	"math"
	"math/big"
	"reflect"
	"slices"
	"strings"
	"testing"

	"rubric/api"
	"rubric/glush"
)

func sym(n int) glush.Expr { return glush.Expr{Kind: glush.Sym, Sym: n} }

func seq(l ...glush.Expr) glush.Expr { return glush.Expr{Kind: glush.Seq, Kids: l} }

func alt(l ...glush.Expr) glush.Expr { return glush.Expr{Kind: glush.Alt, Kids: l} }

func rep(low, high int, l ...glush.Expr) glush.Expr {
	return glush.Expr{Kind: glush.Rep, Min: low, Max: high, Kids: l}
}

func empty() glush.Expr { return glush.Expr{Kind: glush.Empty} }

func none() glush.Expr { return glush.Expr{Kind: glush.None} }

// with answers e with kids that its kind has no use for.
func with(e glush.Expr, l ...glush.Expr) glush.Expr {
	e.Kids = l
	return e
}

// times answers a list of the same expression.
func times(n int, e glush.Expr) []glush.Expr { return slices.Repeat([]glush.Expr{e}, n) }

// nested answers e within so many others.
func nested(n int, e glush.Expr, wrap func(glush.Expr) glush.Expr) glush.Expr {
	for range n {
		e = wrap(e)
	}
	return e
}

// tell tells an expression, but of many kids only the first.
func tell(e glush.Expr) string {
	var kids []string
	for i, k := range e.Kids {
		if i == 9 {
			kids = append(kids, fmt.Sprint(".. of ", len(e.Kids)))
			break
		}
		kids = append(kids, tell(k))
	}
	l := "(" + strings.Join(kids, " ") + ")"
	switch e.Kind {
	case glush.Empty:
		return "empty"
	case glush.None:
		return "none"
	case glush.Sym:
		return fmt.Sprint(e.Sym)
	case glush.Seq:
		return "seq" + l
	case glush.Alt:
		return "alt" + l
	case glush.Rep:
		return fmt.Sprintf("rep{%d,%d}%s", e.Min, e.Max, l)
	}
	return fmt.Sprintf("kind %d%s", e.Kind, l)
}

func built(t *testing.T, e glush.Expr) glush.Auto {
	t.Helper()
	a, err := glush.Build(e, api.MaxPos)
	if err != api.OK {
		t.Fatalf("Build(%s): %v", tell(e), err)
	}
	return a
}

func sameAuto(a, b glush.Auto) bool {
	return slices.Equal(a.Syms, b.Syms) && a.Nullable == b.Nullable && slices.Equal(a.First, b.First) && slices.Equal(a.Last, b.Last) &&
		slices.EqualFunc(a.Follow, b.Follow, func(p, q []int) bool { return slices.Equal(p, q) })
}

// roll tells numbers that look thrown, the same ones each time.
type roll struct{ state uint64 }

func dice(seed uint64) *roll { return &roll{seed} }

func (d *roll) throw(n int) int {
	d.state = d.state*6364136223846793005 + 1442695040888963407
	return int(d.state >> 33 % uint64(n))
}

// bounds answers the Min and Max of a Rep, up to 3.
func (d *roll) bounds() (int, int) {
	low := d.throw(4)
	if d.throw(3) == 0 {
		return low, -1
	}
	return low, low + d.throw(4-low)
}

// expr answers an expression over symbols 0 to 2.
func (d *roll) expr(depth int) glush.Expr {
	if depth == 0 {
		return []glush.Expr{sym(0), sym(1), sym(2), sym(0), sym(1), sym(2), empty(), none()}[d.throw(8)]
	}
	switch d.throw(4) {
	case 0:
		return d.expr(0)
	case 1:
		low, high := d.bounds()
		return rep(low, high, d.expr(depth-1))
	}
	var l []glush.Expr
	for range d.throw(4) {
		l = append(l, d.expr(depth-1))
	}
	return []glush.Expr{seq(l...), alt(l...)}[d.throw(2)]
}

// small answers all expressions of a few nodes, over symbols 0 and 1.
func small() []glush.Expr {
	list := []glush.Expr{empty(), none(), sym(0), sym(1), seq(), alt()}
	bounds := [][2]int{{0, 0}, {0, 1}, {1, 1}, {0, 2}, {1, 2}, {2, 2}, {1, 3}, {0, -1}, {1, -1}, {2, -1}, {3, -1}}
	wrap := func(l []glush.Expr) (out []glush.Expr) {
		for _, e := range l {
			out = append(out, seq(e), alt(e))
			for _, b := range bounds {
				out = append(out, rep(b[0], b[1], e))
			}
		}
		return out
	}
	pair := func(l, r []glush.Expr) (out []glush.Expr) {
		for _, e := range l {
			for _, f := range r {
				out = append(out, seq(e, f), alt(e, f))
			}
		}
		return out
	}
	two := append(wrap(list), pair(list, list)...)
	return slices.Concat(list, two, wrap(two), pair(list, two), pair(two, list))
}

func TestP901Check(t *testing.T) {
	a := sym(0)
	for _, e := range []glush.Expr{
		a, sym(1), sym(math.MaxInt), empty(), none(), seq(), alt(), seq(a), alt(a), seq(a, a, a), alt(a, a, a),
		rep(0, 0, a), rep(0, 1, a), rep(1, 1, a), rep(0, -1, a), rep(7, -1, a), rep(1000, 1000, a), rep(0, 1000, a), rep(1000, -1, a), rep(999, 1000, a),
		rep(1000, 1000, rep(1000, 1000, rep(1000, -1, a))), seq(alt(), rep(0, 0, none()), empty()),
		// What a kind has no use for is not looked at.
		{Kind: glush.Empty, Sym: -1, Min: -1, Max: -7}, {Kind: glush.None, Sym: -1, Min: 5, Max: 4}, {Kind: glush.Sym, Min: -1, Max: -7},
		{Kind: glush.Seq, Sym: -1, Min: -1, Max: -7}, {Kind: glush.Alt, Sym: -1, Min: 5, Max: 4}, {Kind: glush.Rep, Sym: -1, Kids: []glush.Expr{a}},
		with(a, glush.Expr{}), with(empty(), sym(-1)), with(none(), rep(2, 1)), with(a, rep(0, -2, glush.Expr{Kind: 9}), a),
	} {
		if err := glush.Check(e); err != api.OK {
			t.Errorf("Check(%s): %v", tell(e), err)
		}
	}
}

// wrong answers expressions with a number that may not be.
func wrong() []glush.Expr {
	a := sym(0)
	list := []glush.Expr{
		{}, {Kind: -1}, {Kind: 7}, {Kind: 9}, {Kind: math.MaxInt}, {Kind: math.MinInt}, {Kind: 7, Kids: []glush.Expr{a}},
		sym(-1), sym(math.MinInt),
		rep(-1, 0, a), rep(-1, -1, a), rep(math.MinInt, 5, a), rep(1001, 1001, a), rep(1001, -1, a), rep(math.MaxInt, -1, a), rep(math.MaxInt, math.MaxInt, a),
		rep(0, 1001, a), rep(1000, 1001, a), rep(0, math.MaxInt, a), rep(0, -2, a), rep(0, math.MinInt, a), rep(1, 0, a), rep(1000, 999, a), rep(2, 1, a),
		rep(0, 1), rep(0, -1), rep(0, 0), rep(0, 1, a, a), rep(0, 0, a, a), rep(1, 1, a, a, a),
	}
	for _, e := range slices.Clone(list) {
		list = append(list, seq(e), seq(a, e), seq(e, a), alt(a, a, e), rep(0, 1, e), rep(0, 0, e), seq(none(), alt(a, seq(empty(), rep(1, 1, e)))))
	}
	return list
}

func TestP901CheckNumbers(t *testing.T) {
	for _, e := range wrong() {
		if err := glush.Check(e); err != api.ErrArg {
			t.Errorf("Check(%s): %v", tell(e), err)
		}
	}
}

// many answers expressions that are too deep or too great, and those that just are
// not; with as many wrong numbers as there are nodes, if bad.
func many(bad bool) (over, just []glush.Expr) {
	low, a := 1, sym(5)
	if bad {
		low, a = -3, sym(-5)
	}
	once := func(e glush.Expr) glush.Expr { return rep(low, 1, e) }
	row := func(e glush.Expr) glush.Expr { return seq(e) }
	most := api.MaxNodes
	for d := range 2 {
		l := []glush.Expr{
			nested(199+d, a, once), nested(199+d, seq(), row), nested(199+d, none(), row),
			seq(a, nested(198+d, a, once), a), alt(times(3, nested(198+d, a, once))...),
			// Kids that are not looked at count.
			nested(199+d, a, func(e glush.Expr) glush.Expr { return with(empty(), e) }),
			nested(100, with(a, nested(98+d, a, row)), once),
			seq(times(most-1+d, a)...), alt(times(most-1+d, empty())...), rep(low, 1, seq(times(most-2+d, none())...)),
			seq(seq(times(2000, a)...), alt(times(2093+d, a)...)),
			with(a, times(most-1+d, a)...), with(none(), with(a, times(most-2+d, a)...)),
			seq(nested(100, a, row), alt(times(3993+d, a)...)),
		}
		over, just = l, append(just, over...)
	}
	return over, just
}

func TestP901CheckLimits(t *testing.T) {
	over, just := many(false)
	for i, e := range just {
		if err := glush.Check(e); err != api.OK {
			t.Errorf("%d at the limit: %v", i, err)
		}
	}
	for i, e := range over {
		if err := glush.Check(e); err != api.ErrMany {
			t.Errorf("%d over the limit: %v", i, err)
		}
	}
	// ErrMany goes ahead, wherever the wrong numbers stand.
	over, _ = many(true)
	for i, e := range over {
		for _, f := range []glush.Expr{e, seq(glush.Expr{}, e), seq(e, glush.Expr{}), {Kind: 9, Kids: []glush.Expr{e}}, rep(5, 2, e, e), with(sym(-1), e)} {
			if err := glush.Check(f); err != api.ErrMany {
				t.Errorf("%d over the limit, with wrong numbers: %v", i, err)
			}
		}
	}
}

func TestP901WordOfWhatCheckRefuses(t *testing.T) {
	over, _ := many(false)
	for _, e := range append(wrong(), over...) {
		for _, w := range [][]int{nil, {}, {0}, {5}, {-1}, {5, 5, 5}} {
			if glush.Word(e, w) {
				t.Errorf("Word(%s, %v)", tell(e), w)
			}
		}
		// It is refused as a whole, whatever else has that word.
		if glush.Word(alt(empty(), sym(0), e), nil) || glush.Word(alt(empty(), sym(0), e), []int{0}) {
			t.Errorf("Word(alt(empty 0 %s))", tell(e))
		}
	}
}

func TestP902Positions(t *testing.T) {
	a, b := sym(1), sym(2)
	for _, c := range []struct {
		e    glush.Expr
		want int
	}{
		{empty(), 0}, {none(), 0}, {seq(), 0}, {alt(), 0}, {a, 1}, {sym(0), 1},
		{seq(a), 1}, {seq(a, b), 2}, {alt(a, b), 2}, {alt(a, empty(), a), 2}, {seq(a, none(), b), 2}, {seq(none(), a), 1},
		{rep(0, 0, a), 0}, {rep(0, 1, a), 1}, {rep(1, 1, a), 1}, {rep(0, 7, a), 7}, {rep(3, 7, a), 7}, {rep(7, 7, a), 7},
		{rep(0, -1, a), 1}, {rep(1, -1, a), 1}, {rep(2, -1, a), 2}, {rep(7, -1, a), 7}, {rep(1000, -1, a), 1000}, {rep(5, -1, empty()), 0},
		{rep(3, 3, seq(a, b)), 6}, {rep(3, 3, alt(a, rep(0, 2, b))), 9}, {rep(2, -1, rep(3, -1, rep(4, 4, a))), 24}, {rep(0, 0, rep(5, 5, a)), 0}, {rep(5, 5, rep(0, 0, a)), 0},
		{rep(1000, 1000, rep(1000, 1000, a)), 1000000}, {seq(rep(1000, 1000, rep(1000, 1000, a)), rep(48, 48, rep(1000, 1000, a)), rep(576, 576, a)), 1 << 20},
		{seq(times(4095, a)...), 4095}, {rep(256, 256, seq(times(4094, a)...)), 1048064},
		{with(a, a, b), 1}, {with(empty(), a), 0}, {with(none(), a), 0}, {seq(with(a, b, b), b), 2},
	} {
		for _, most := range []int{0, 1, 2, c.want - 1, c.want, c.want + 1, api.MaxPos, 1 << 20} {
			if most < 0 || most > 1<<20 {
				continue
			}
			if got := glush.Positions(c.e, most); got != min(c.want, most+1) {
				t.Errorf("Positions(%s, %d): %d; want %d", tell(c.e), most, got, min(c.want, most+1))
			}
		}
	}
}

// count says by numbers without a bound how many Syms there are.
func count(e glush.Expr) *big.Int {
	sum := new(big.Int)
	switch e.Kind {
	case glush.Sym:
		return big.NewInt(1)
	case glush.Seq, glush.Alt, glush.Rep:
		for _, k := range e.Kids {
			sum.Add(sum, count(k))
		}
	}
	if e.Kind == glush.Rep {
		n := e.Max
		if n == -1 {
			n = max(e.Min, 1)
		}
		sum.Mul(sum, big.NewInt(int64(n)))
	}
	return sum
}

func TestP902PositionsCut(t *testing.T) {
	huge := nested(199, sym(1), func(e glush.Expr) glush.Expr { return rep(1000, 1000, e) })
	for _, most := range []int{0, 1, 999, 1000, api.MaxPos, 1<<20 - 1, 1 << 20} {
		for _, e := range []glush.Expr{huge, seq(huge.Kids[0], huge.Kids[0]), alt(huge.Kids[0], sym(1)), rep(1000, -1, huge.Kids[0])} {
			if got := glush.Positions(e, most); got != most+1 {
				t.Errorf("%d: %d", most, got)
			}
		}
		// What was cut is gone, if it stands no times.
		if got := glush.Positions(seq(rep(0, 0, huge.Kids[0]), rep(0, 0, sym(1))), most); got != 0 {
			t.Errorf("%d: %d", most, got)
		}
	}
	d := dice(1)
	for range 20000 {
		e := d.expr(5)
		most := []int{0, 1, 2, 5, 100, 1 << 20}[d.throw(6)]
		want := most + 1
		if c := count(e); c.Cmp(big.NewInt(int64(want))) < 0 {
			want = int(c.Int64())
		}
		if got := glush.Positions(e, most); got != want {
			t.Errorf("Positions(%s, %d): %d; want %d", tell(e), most, got, want)
		}
	}
}

// TestP902PositionsOfMany: what has too many nodes for Check is counted all the
// same.
func TestP902PositionsOfMany(t *testing.T) {
	a := sym(3)
	for n, e := range map[int]glush.Expr{
		5000: seq(times(5000, a)...), 8190: alt(times(4095, rep(0, 2, a))...), 20000: seq(times(20, alt(times(1000, a)...))...),
		0: rep(0, 0, seq(times(5000, a)...)), 1: seq(append(times(10000, empty()), a)...),
	} {
		if got := glush.Positions(e, 1<<20); got != n {
			t.Errorf("%d: %d", n, got)
		}
	}
}

func TestP902BuildErrors(t *testing.T) {
	a := sym(1)
	over, _ := many(false)
	for _, most := range []int{math.MinInt, -1, 0, 1, 10, api.MaxPos, api.MaxPos + 1, math.MaxInt} {
		for _, e := range over {
			checkNoAuto(t, e, most, api.ErrMany)
		}
		// Check's error goes ahead of too many positions.
		for _, e := range wrong() {
			checkNoAuto(t, e, most, api.ErrArg)
			checkNoAuto(t, seq(rep(1000, 1000, a), e), most, api.ErrArg)
		}
		checkNoAuto(t, rep(1000, 1000, a), most, api.ErrMany)
		checkNoAuto(t, seq(times(api.MaxPos+1, a)...), most, api.ErrMany)
		checkNoAuto(t, rep(1000, 1000, rep(1000, 1000, a)), most, api.ErrMany)
	}
	for _, e := range []glush.Expr{empty(), none(), a, seq(a, a), rep(0, 3, a), rep(3, -1, a), rep(0, 0, a), rep(2, 2, seq(a, none(), a)), rep(512, 512, a), rep(0, 512, a), rep(512, -1, a), rep(16, 16, rep(0, 32, a)), alt(times(512, a)...)} {
		n := glush.Positions(e, 1<<20)
		checkNoAuto(t, e, n-1, api.ErrMany)
		checkNoAuto(t, e, -1, api.ErrMany)
		checkNoAuto(t, e, math.MinInt, api.ErrMany)
		for _, most := range []int{n, n + 1, max(n, api.MaxPos), api.MaxPos + 1, 1 << 30, math.MaxInt} {
			if got, err := glush.Build(e, most); err != api.OK || len(got.Syms) != n || len(got.Follow) != n {
				t.Errorf("Build(%s, %d): %d, %d, %v", tell(e), most, len(got.Syms), len(got.Follow), err)
			}
		}
	}
}

func checkNoAuto(t *testing.T, e glush.Expr, most int, want api.Errno) {
	t.Helper()
	if a, err := glush.Build(e, most); err != want || !reflect.DeepEqual(a, glush.Auto{}) {
		t.Errorf("Build(%s, %d): %v, %v; want %v", tell(e), most, a, err, want)
	}
}

func TestP902Build(t *testing.T) {
	type l = []int
	type ll = [][]int
	a, b, c := sym(1), sym(2), sym(3)
	for _, x := range []struct {
		e    glush.Expr
		want glush.Auto
	}{
		{empty(), glush.Auto{Nullable: true}},
		{none(), glush.Auto{}},
		{seq(), glush.Auto{Nullable: true}},
		{alt(), glush.Auto{}},
		{a, glush.Auto{Syms: l{1}, First: l{0}, Last: l{0}, Follow: ll{{}}}},
		{with(a, b, none()), glush.Auto{Syms: l{1}, First: l{0}, Last: l{0}, Follow: ll{{}}}},
		{with(empty(), b), glush.Auto{Nullable: true}},
		{seq(a, b, a), glush.Auto{Syms: l{1, 2, 1}, First: l{0}, Last: l{2}, Follow: ll{{1}, {2}, {}}}},
		{alt(c, b, c), glush.Auto{Syms: l{3, 2, 3}, First: l{0, 1, 2}, Last: l{0, 1, 2}, Follow: ll{{}, {}, {}}}},
		{alt(a, empty()), glush.Auto{Syms: l{1}, Nullable: true, First: l{0}, Last: l{0}, Follow: ll{{}}}},
		{seq(alt(a, empty()), b, alt(c, empty())), glush.Auto{Syms: l{1, 2, 3}, First: l{0, 1}, Last: l{1, 2}, Follow: ll{{1}, {2}, {}}}},
		{seq(alt(a, empty()), alt(empty(), b), alt(c, empty())), glush.Auto{Syms: l{1, 2, 3}, Nullable: true, First: l{0, 1, 2}, Last: l{0, 1, 2}, Follow: ll{{1, 2}, {2}, {}}}},
		// Reps with an end: what may be is nested.
		{rep(0, 0, a), glush.Auto{Nullable: true}},
		{rep(1, 1, a), glush.Auto{Syms: l{1}, First: l{0}, Last: l{0}, Follow: ll{{}}}},
		{rep(0, 1, a), glush.Auto{Syms: l{1}, Nullable: true, First: l{0}, Last: l{0}, Follow: ll{{}}}},
		{rep(0, 3, a), glush.Auto{Syms: l{1, 1, 1}, Nullable: true, First: l{0}, Last: l{0, 1, 2}, Follow: ll{{1}, {2}, {}}}},
		{rep(1, 3, a), glush.Auto{Syms: l{1, 1, 1}, First: l{0}, Last: l{0, 1, 2}, Follow: ll{{1}, {2}, {}}}},
		{rep(2, 3, a), glush.Auto{Syms: l{1, 1, 1}, First: l{0}, Last: l{1, 2}, Follow: ll{{1}, {2}, {}}}},
		{rep(3, 3, a), glush.Auto{Syms: l{1, 1, 1}, First: l{0}, Last: l{2}, Follow: ll{{1}, {2}, {}}}},
		{rep(2, 2, rep(0, 1, a)), glush.Auto{Syms: l{1, 1}, Nullable: true, First: l{0, 1}, Last: l{0, 1}, Follow: ll{{1}, {}}}},
		{rep(2, 3, seq(a, b)), glush.Auto{Syms: l{1, 2, 1, 2, 1, 2}, First: l{0}, Last: l{3, 5}, Follow: ll{{1}, {2}, {3}, {4}, {5}, {}}}},
		{seq(a, rep(0, 2, b), c), glush.Auto{Syms: l{1, 2, 2, 3}, First: l{0}, Last: l{3}, Follow: ll{{1, 3}, {2, 3}, {3}, {}}}},
		// Reps without an end: the last one again and again.
		{rep(0, -1, a), glush.Auto{Syms: l{1}, Nullable: true, First: l{0}, Last: l{0}, Follow: ll{{0}}}},
		{rep(1, -1, a), glush.Auto{Syms: l{1}, First: l{0}, Last: l{0}, Follow: ll{{0}}}},
		{rep(2, -1, a), glush.Auto{Syms: l{1, 1}, First: l{0}, Last: l{1}, Follow: ll{{1}, {1}}}},
		{rep(3, -1, a), glush.Auto{Syms: l{1, 1, 1}, First: l{0}, Last: l{2}, Follow: ll{{1}, {2}, {2}}}},
		{rep(2, -1, rep(0, 1, a)), glush.Auto{Syms: l{1, 1}, Nullable: true, First: l{0, 1}, Last: l{0, 1}, Follow: ll{{1}, {1}}}},
		{rep(0, -1, seq(a, b)), glush.Auto{Syms: l{1, 2}, Nullable: true, First: l{0}, Last: l{1}, Follow: ll{{1}, {0}}}},
		{rep(1, -1, alt(a, b)), glush.Auto{Syms: l{1, 2}, First: l{0, 1}, Last: l{0, 1}, Follow: ll{{0, 1}, {0, 1}}}},
		{rep(2, 2, rep(0, -1, a)), glush.Auto{Syms: l{1, 1}, Nullable: true, First: l{0, 1}, Last: l{0, 1}, Follow: ll{{0, 1}, {1}}}},
		{rep(0, -1, rep(0, 2, a)), glush.Auto{Syms: l{1, 1}, Nullable: true, First: l{0}, Last: l{0, 1}, Follow: ll{{0, 1}, {0}}}},
		// None: by the rules, whatever words there are.
		{seq(a, none()), glush.Auto{Syms: l{1}, First: l{0}, Follow: ll{{}}}},
		{seq(none(), a), glush.Auto{Syms: l{1}, Last: l{0}, Follow: ll{{}}}},
		{seq(a, none(), b), glush.Auto{Syms: l{1, 2}, First: l{0}, Last: l{1}, Follow: ll{{}, {}}}},
		{seq(a, alt(), b), glush.Auto{Syms: l{1, 2}, First: l{0}, Last: l{1}, Follow: ll{{}, {}}}},
		{seq(a, b, none(), c), glush.Auto{Syms: l{1, 2, 3}, First: l{0}, Last: l{2}, Follow: ll{{1}, {}, {}}}},
		{rep(2, 2, seq(a, none(), b)), glush.Auto{Syms: l{1, 2, 1, 2}, First: l{0}, Last: l{3}, Follow: ll{{}, {2}, {}, {}}}},
		{rep(0, -1, seq(a, none(), b)), glush.Auto{Syms: l{1, 2}, Nullable: true, First: l{0}, Last: l{1}, Follow: ll{{}, {0}}}},
		{alt(seq(a, none()), b), glush.Auto{Syms: l{1, 2}, First: l{0, 1}, Last: l{1}, Follow: ll{{}, {}}}},
		{rep(0, 5, none()), glush.Auto{Nullable: true}}, {rep(1, 5, none()), glush.Auto{}}, {rep(5, 5, none()), glush.Auto{}}, {rep(0, -1, none()), glush.Auto{Nullable: true}}, {rep(1, -1, none()), glush.Auto{}}, {rep(0, 0, none()), glush.Auto{Nullable: true}},
		{rep(5, 5, empty()), glush.Auto{Nullable: true}}, {rep(5, -1, empty()), glush.Auto{Nullable: true}},
	} {
		if got := built(t, x.e); !sameAuto(got, x.want) {
			t.Errorf("Build(%s): %v; want %v", tell(x.e), got, x.want)
		}
	}
}

// TestP902BuildMany: more positions than a machine word has bits.
func TestP902BuildMany(t *testing.T) {
	const n = api.MaxPos
	up := func(from, to int) []int {
		l := []int{}
		for i := from; i < to; i++ {
			l = append(l, i)
		}
		return l
	}
	star, maybe, row, nest := built(t, rep(0, -1, alt(times(n, sym(4))...))), built(t, seq(times(n, rep(0, 1, sym(4)))...)), built(t, seq(times(n, sym(4))...)), built(t, rep(100, n, sym(4)))
	for p := range n {
		if !slices.Equal(star.Follow[p], up(0, n)) || !slices.Equal(maybe.Follow[p], up(p+1, n)) || !slices.Equal(row.Follow[p], up(p+1, min(p+2, n))) || !slices.Equal(nest.Follow[p], up(p+1, min(p+2, n))) {
			t.Fatalf("Follow[%d]", p)
		}
	}
	for _, x := range []struct {
		got, want []int
	}{
		{star.First, up(0, n)}, {star.Last, up(0, n)}, {maybe.First, up(0, n)}, {maybe.Last, up(0, n)},
		{row.First, up(0, 1)}, {row.Last, up(n-1, n)}, {nest.First, up(0, 1)}, {nest.Last, up(99, n)},
	} {
		if !slices.Equal(x.got, x.want) {
			t.Errorf("%v; want %v", x.got, x.want)
		}
	}
}
