package terms_test

import (
	"testing"

	"rubric/api"
	"rubric/term"
	"rubric/terms"
)

// example is a term with all kinds but All in it.
func example() term.Term {
	return terms.Seq(terms.Elem("a"), terms.Times(0, -1, terms.Choice(terms.Any(terms.Every()), terms.Any(terms.Other("u")))), terms.Maybe(terms.Elem("u:b")), terms.Any(terms.These("", "v")), terms.Empty())
}

func TestTell(t *testing.T) {
	for want, x := range map[string]term.Term{
		"[3 :a [4 <1 > <2 u>]{0,-1} u:b{0,1} <3 ,v> empty]": example(), "[5 :a]": terms.All(terms.Elem("a")), "[3 [3 :a]]": terms.Deep(2, term.Seq, terms.Elem("a")),
	} {
		if got := terms.Tell(x); got != want {
			t.Errorf("%s; want %s", got, want)
		}
	}
}

func TestSame(t *testing.T) {
	other := []func(*term.Term){
		func(x *term.Term) { x.Kind = term.Choice }, func(x *term.Term) { x.Min = 0 }, func(x *term.Term) { x.Max = 2 }, func(x *term.Term) { x.Kids[0].Name.Local = "b" },
		func(x *term.Term) { x.Kids[2].Leaf = 1 }, func(x *term.Term) { x.Kids = x.Kids[1:] }, func(x *term.Term) { x.Kids[1].Kids[0].W.How = 2 },
		func(x *term.Term) { x.Kids[1].Kids[1].W.Not = "v" }, func(x *term.Term) { x.Kids[1].Kids[1].W.Process = 1 }, func(x *term.Term) { x.Kids[3].W.Spaces[0] = "u" },
	}
	for i, turn := range other {
		x := example()
		turn(&x)
		if terms.Same(x, example()) || terms.SameRoom(terms.Roomy(x), terms.Roomy(example())) {
			t.Errorf("%d is the same", i)
		}
	}
	x := example()
	x.W.Spaces, x.Kids[0].Kids = []string{}, nil
	if !terms.Same(x, example()) || !terms.SameRoom(terms.Roomy(x), terms.Roomy(example())) {
		t.Error("not the same")
	}
}

func TestRoom(t *testing.T) {
	x := terms.Roomy(example())
	if !terms.Same(x, example()) {
		t.Error("another term")
	}
	x.Kids[3].W.Spaces[:3][2] = "z"
	y := terms.Roomy(example())
	y.Kids[:6][5].Min = 0
	if terms.SameRoom(x, terms.Roomy(example())) || terms.SameRoom(y, terms.Roomy(example())) {
		t.Error("what was changed is the same")
	}
	given := example()
	terms.Spoil(terms.Roomy(given))
	if !terms.Same(given, example()) {
		t.Error("memory is shared")
	}
	terms.Spoil(given)
	if given.Kids[0].Name.Local != "spoilt" || given.Kids[4].Name.Local != "spoilt" {
		t.Error("not spoilt")
	}
}

func TestHit(t *testing.T) {
	for _, leaf := range term.Leaves(example()) {
		for _, n := range append(terms.Names("a b u:a u:b v:b"), api.Name{Space: "?", Local: "?"}) {
			if terms.Hit(leaf, n) != term.Hits(leaf, n) {
				t.Errorf("%s: %v", terms.Tell(leaf), n)
			}
		}
	}
}

func TestElems(t *testing.T) {
	l := terms.Elems(3)
	if len(l) != 3 || l[0].Name.Local >= l[1].Name.Local || l[1].Name.Local >= l[2].Name.Local {
		t.Errorf("%v", l)
	}
}

// TestDice: all terms that are thrown are right, of all kinds, and the same again.
func TestDice(t *testing.T) {
	leaves := []term.Term{terms.Elem("a"), terms.Any(terms.These("u", "v"))}
	d, again := terms.NewDice(1, leaves...), terms.NewDice(1, leaves...)
	met := map[int]int{}
	for range 500 {
		x := d.Top(3)
		if term.Check(x) != api.OK || !terms.Same(x, again.Top(3)) {
			t.Fatal(terms.Tell(x))
		}
		met[x.Kind]++
		terms.Spoil(x)
	}
	for kind := term.Elem; kind <= term.Empty; kind++ {
		if met[kind] < 10 {
			t.Errorf("only %d of %d", met[kind], kind)
		}
	}
}

func TestRows(t *testing.T) {
	l := terms.Rows(3, terms.Names("a b"))
	if len(l) != 15 || len(l[0]) != 0 || len(l[14]) != 3 || l[5][0].Local != "b" || l[5][1].Local != "a" {
		t.Errorf("%v", l)
	}
}

func TestTooMuch(t *testing.T) {
	for i, x := range terms.TooMuch() {
		if term.Check(x) != api.ErrMany {
			t.Errorf("%d is not too much", i)
		}
	}
}
