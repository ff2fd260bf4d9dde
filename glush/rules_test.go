package glush_test

import (
	"maps"
	"slices"
	"testing"

	"rubric/api"
	"rubric/glush"
)

// written is an expression that is written out: a position, or one or two others.
type written struct {
	what   string // empty, none, position, then, or, maybe, again
	at     int
	sym    int
	one    *written
	second *written
}

// write writes out an expression, word for word as the promise has it.
func write(e glush.Expr, next *int) *written {
	fresh := func(k glush.Expr) *written { return write(k, next) }
	switch e.Kind {
	case glush.Empty:
		return &written{what: "empty"}
	case glush.Sym:
		*next++
		return &written{what: "position", at: *next - 1, sym: e.Sym}
	case glush.Seq:
		all := &written{what: "empty"}
		for _, k := range e.Kids {
			all = &written{what: "then", one: all, second: fresh(k)}
		}
		return all
	case glush.Alt:
		all := &written{what: "none"}
		for _, k := range e.Kids {
			all = &written{what: "or", one: all, second: fresh(k)}
		}
		return all
	case glush.Rep:
		return writeRep(e, fresh)
	}
	return &written{what: "none"}
}

func writeRep(e glush.Expr, fresh func(glush.Expr) *written) *written {
	x := e.Kids[0]
	all := &written{what: "empty"}
	then := func(w *written) { all = &written{what: "then", one: all, second: w} }
	if e.Max == -1 {
		for range e.Min - 1 {
			then(fresh(x))
		}
		last := &written{what: "again", one: fresh(x)}
		if e.Min == 0 {
			return &written{what: "maybe", one: last}
		}
		then(last)
		return all
	}
	for range e.Min {
		then(fresh(x))
	}
	var nest func(n int) *written
	nest = func(n int) *written {
		if n == 0 {
			return &written{what: "empty"}
		}
		first := fresh(x)
		return &written{what: "maybe", one: &written{what: "then", one: first, second: nest(n - 1)}}
	}
	then(nest(e.Max - e.Min))
	return all
}

func (w *written) nullable() bool {
	switch w.what {
	case "empty", "maybe":
		return true
	case "then":
		return w.one.nullable() && w.second.nullable()
	case "or":
		return w.one.nullable() || w.second.nullable()
	case "again":
		return w.one.nullable()
	}
	return false
}

// edge answers the first positions, or the last ones, each with its symbol.
func (w *written) edge(first bool) map[int]int {
	out := map[int]int{}
	switch w.what {
	case "position":
		out[w.at] = w.sym
	case "or":
		maps.Copy(out, w.one.edge(first))
		maps.Copy(out, w.second.edge(first))
	case "maybe", "again":
		return w.one.edge(first)
	case "then":
		near, far := w.one, w.second
		if !first {
			near, far = far, near
		}
		maps.Copy(out, near.edge(first))
		if near.nullable() {
			maps.Copy(out, far.edge(first))
		}
	}
	return out
}

// follow goes down with what may stand behind the whole, and tells it at each
// position.
func (w *written) follow(behind map[int]int, tell func(at, sym int, behind map[int]int)) {
	switch w.what {
	case "position":
		tell(w.at, w.sym, behind)
	case "or":
		w.one.follow(behind, tell)
		w.second.follow(behind, tell)
	case "maybe":
		w.one.follow(behind, tell)
	case "again":
		all := maps.Clone(behind)
		maps.Copy(all, w.one.edge(true))
		w.one.follow(all, tell)
	case "then":
		next := w.second.edge(true)
		if w.second.nullable() {
			maps.Copy(next, behind)
		}
		w.one.follow(next, tell)
		w.second.follow(behind, tell)
	}
}

// live answers whether there is a word.
func (w *written) live() bool {
	switch w.what {
	case "none":
		return false
	case "then":
		return w.one.live() && w.second.live()
	case "or":
		return w.one.live() || w.second.live()
	case "again":
		return w.one.live()
	}
	return true
}

func rising(m map[int]int) []int { return slices.Sorted(maps.Keys(m)) }

// byRules answers an expression's automaton by rules that go down the tree.
func byRules(e glush.Expr) (glush.Auto, *written) {
	n := 0
	w := write(e, &n)
	a := glush.Auto{Syms: make([]int, n), Nullable: w.nullable(), First: rising(w.edge(true)), Last: rising(w.edge(false)), Follow: make([][]int, n)}
	w.follow(map[int]int{}, func(at, sym int, behind map[int]int) {
		a.Syms[at], a.Follow[at] = sym, rising(behind)
	})
	return a, w
}

// checkRules holds Build and Live against the rules, and answers the automaton.
func checkRules(t *testing.T, e glush.Expr) (glush.Auto, *written) {
	t.Helper()
	want, w := byRules(e)
	got := built(t, e)
	if !sameAuto(got, want) {
		t.Fatalf("Build(%s): %v; want %v", tell(e), got, want)
	}
	if got.Live() != w.live() {
		t.Fatalf("Live of %s: %v", tell(e), got.Live())
	}
	return got, w
}

func TestP902BuildByRules(t *testing.T) {
	for _, e := range small() {
		checkRules(t, e)
	}
	d := dice(2)
	for range 20000 {
		if e := d.expr(4); glush.Positions(e, 200) <= 200 {
			checkRules(t, e)
		}
	}
}

func TestP902BuildByRulesOfManyPositions(t *testing.T) {
	d := dice(3)
	for n := 0; n < 60; {
		e := seq(d.expr(6), d.expr(6), d.expr(5))
		if p := glush.Positions(e, api.MaxPos); p > 64 && p <= api.MaxPos {
			checkRules(t, e)
			n++
		}
	}
}

// words answers the rows of positions of at most that many that are words.
func (w *written) words(most int) map[string]int {
	out := map[string]int{}
	switch w.what {
	case "empty":
		out[""] = 1
	case "position":
		if most > 0 {
			out[string(rune('a'+w.at))] = 1
		}
	case "maybe":
		out = w.one.words(most)
		out[""] = 1
	case "or":
		out = w.one.words(most)
		maps.Copy(out, w.second.words(most))
	case "then":
		out = behind(w.one.words(most), w.second.words(most), most)
	case "again":
		once := w.one.words(most)
		out = maps.Clone(once)
		for size := -1; size != len(out); {
			size = len(out)
			maps.Copy(out, behind(out, once, most))
		}
	}
	return out
}

func behind(one, second map[string]int, most int) map[string]int {
	out := map[string]int{}
	for a := range one {
		for b := range second {
			if len(a)+len(b) <= most {
				out[a+b] = 1
			}
		}
	}
	return out
}

func hasNone(e glush.Expr) bool {
	return e.Kind == glush.None || e.Kind == glush.Alt && len(e.Kids) == 0 || slices.ContainsFunc(e.Kids, hasNone)
}

// TestP902SetsAreThoseOfWords: where no part is without words, the sets are what
// the words of positions show.
func TestP902SetsAreThoseOfWords(t *testing.T) {
	list := small()
	d := dice(4)
	for range 20000 {
		list = append(list, d.expr(3))
	}
	checked := 0
	for _, e := range list {
		n := glush.Positions(e, 4)
		if n > 3 || hasNone(e) {
			continue
		}
		_, w := byRules(e)
		first, last, follow := map[int]int{}, map[int]int{}, make([]map[int]int, n)
		for p := range follow {
			follow[p] = map[int]int{}
		}
		nullable := false
		for word := range w.words(2 * n) {
			nullable = nullable || word == ""
			for i := range len(word) {
				p := int(word[i] - 'a')
				if i == 0 {
					first[p] = 1
				} else {
					follow[word[i-1]-'a'][p] = 1
				}
				if i == len(word)-1 {
					last[p] = 1
				}
			}
		}
		want := glush.Auto{Syms: built(t, e).Syms, Nullable: nullable, First: rising(first), Last: rising(last)}
		for _, f := range follow {
			want.Follow = append(want.Follow, rising(f))
		}
		if got := built(t, e); !sameAuto(got, want) {
			t.Fatalf("Build(%s): %v; want %v", tell(e), got, want)
		}
		checked++
	}
	if checked < 3000 {
		t.Errorf("only %d were checked", checked)
	}
}
