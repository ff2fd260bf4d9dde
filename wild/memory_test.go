package wild_test

import (
	"slices"
	"strings"
	"sync"
	"testing"

	"rubric/api"
	"rubric/wild"
)

// roomy answers w with its spaces in the midst of a longer row, and a look whether
// all of that is as it was.
func roomy(w wild.Wild) (wild.Wild, func() bool) {
	row := append([]string{"y"}, w.Spaces...)
	row = append(row, "x", "b", "a")
	before := slices.Clone(row)
	w.Spaces = row[1 : len(w.Spaces)+1]
	return w, func() bool { return slices.Equal(row, before) }
}

// spoil writes over a wildcard's spaces and their spare room.
func spoil(w wild.Wild) {
	for i := range w.Spaces[:cap(w.Spaces)] {
		w.Spaces[:cap(w.Spaces)][i] = "spoilt"
	}
}

// answers is what all calls that answer a wildcard answer of a and b.
func answers(a, b wild.Wild) []wild.Wild {
	var out []wild.Wild
	for _, f := range []func(a, b wild.Wild) (wild.Wild, bool){wild.Both, wild.Union} {
		x, _ := f(a, b)
		y, _ := f(b, a)
		z, _ := f(a, a)
		out = append(out, x, y, z)
	}
	return out
}

func rightWilds() []wild.Wild {
	return []wild.Wild{
		every(wild.Strict), other("", wild.Lax), other("a", wild.Skip), other("c", wild.Strict),
		these(wild.Strict), these(wild.Lax, ""), these(wild.Skip, "a"), these(wild.Lax, "", "a", "c"), these(wild.Strict, "a", "b", "c", "d", "e"),
	}
}

// wrongWilds are no wildcards.
func wrongWilds() []wild.Wild {
	var out []wild.Wild
	for _, how := range []int{-1 << 63, 0, 1, 2, 3, 1<<63 - 1} {
		for _, process := range []int{0, 1, 1<<63 - 1} {
			for _, list := range [][]string{nil, {""}, {"b", "a"}, {"a", "a"}, {"", "", "c", "b", ""}, {"\xff", "c", "\x00"}} {
				for _, not := range []string{"", "a", "\xff"} {
					w := wild.Wild{How: how, Not: not, Spaces: list, Process: process}
					if !wild.Right(w) {
						out = append(out, w)
					}
				}
			}
		}
	}
	return out
}

// TestP2NothingIsChangedOrShared: to write all over the answers turns neither what
// was handed in, nor another answer, nor what the same calls answer next.
func TestP2NothingIsChangedOrShared(t *testing.T) {
	for _, x := range rightWilds() {
		for _, y := range rightWilds() {
			a, aRight := roomy(x)
			b, bRight := roomy(y)
			_, _, _, _ = wild.Right(a), wild.Allows(a, "a"), wild.Sub(a, b), wild.Same(a, b)
			want := answers(x, y)
			got := answers(a, b)
			for i := range got {
				if !equal(got[i], want[i]) {
					t.Fatalf("answer %d of %+v and %+v: %+v; want %+v", i, x, y, got[i], want[i])
				}
				spoil(got[i])
			}
			if !aRight() || !bRight() {
				t.Fatalf("%+v or %+v was changed", x, y)
			}
			for i, again := range answers(a, b) {
				if !equal(again, want[i]) {
					t.Fatalf("answer %d of %+v and %+v: memory is shared", i, x, y)
				}
			}
		}
	}
}

// TestP2HandedInIsNotKept: what was handed in may be written over behind a call.
func TestP2HandedInIsNotKept(t *testing.T) {
	for _, x := range rightWilds() {
		for _, y := range rightWilds() {
			a, _ := roomy(x)
			b, _ := roomy(y)
			got, want := answers(a, b), answers(x, y)
			spoil(a)
			spoil(b)
			for i := range got {
				if !equal(got[i], want[i]) {
					t.Fatalf("answer %d of %+v and %+v: what was handed in is kept", i, x, y)
				}
			}
		}
	}
}

func TestP2ParsesAreNew(t *testing.T) {
	text := "c b a ##local c ##targetNamespace"
	w, err := wild.Parse(text, "t", "")
	spoil(w)
	again, errAgain := wild.Parse(text, "t", "")
	if err != api.OK || errAgain != api.OK || !equal(again, these(wild.Strict, "", "a", "b", "c", "t")) {
		t.Errorf("%+v, %v", again, errAgain)
	}
}

func TestP2NoListIsAnEmptyOne(t *testing.T) {
	for _, how := range []int{wild.Every, wild.Other, wild.These} {
		none := wild.Wild{How: how, Process: wild.Lax}
		empty := wild.Wild{How: how, Spaces: []string{}, Process: wild.Lax}
		for _, b := range rightWilds() {
			x, y := answers(none, b), answers(empty, b)
			if !slices.EqualFunc(x, y, equal) || !wild.Right(empty) || !wild.Same(none, empty) || wild.Sub(none, b) != wild.Sub(empty, b) || wild.Sub(b, none) != wild.Sub(b, empty) {
				t.Errorf("%d and %+v", how, b)
			}
		}
	}
}

// TestP3AtOnce: all calls, from several sides at once.
func TestP3AtOnce(t *testing.T) {
	a, b := these(wild.Lax, "", "a", "c"), other("a", wild.Skip)
	want := answers(a, b)
	var group sync.WaitGroup
	for range 8 {
		group.Go(func() {
			for range 200 {
				w, err := wild.Parse("c a ##local a", "t", "lax")
				if err != api.OK || !wild.Same(w, a) || wild.Sub(a, b) || !wild.Allows(b, "c") || !slices.EqualFunc(answers(a, b), want, equal) {
					t.Error("another answer")
					return
				}
			}
		})
	}
	group.Wait()
}

func TestP1LongTexts(t *testing.T) {
	long := strings.Repeat("a", 1<<20)
	w, err := wild.Parse(strings.Repeat("##local b\t", 1<<17)+long, long, "skip")
	if err != api.OK || !equal(w, these(wild.Skip, "", long, "b")) {
		t.Errorf("%d, %v", len(w.Spaces), err)
	}
	if _, err := wild.Parse(strings.Repeat("b ", 1<<17)+"##", "", ""); err != api.ErrForm {
		t.Error(err)
	}
	if w, err := wild.Parse(strings.Repeat(" ", 1<<20), long, ""); err != api.OK || w.How != wild.Every {
		t.Error(err)
	}
}

// TestP8WhatIsNotRight: every call ends with some answer that is new memory, and
// changes nothing.
func TestP8WhatIsNotRight(t *testing.T) {
	for _, x := range wrongWilds() {
		a, aRight := roomy(x)
		for _, space := range []string{"", "a", "b", "\xff"} {
			wild.Allows(a, space)
		}
		for _, y := range append(wrongWilds(), rightWilds()...) {
			b, bRight := roomy(y)
			_, _, _, _ = wild.Sub(a, b), wild.Sub(b, a), wild.Same(a, b), wild.Same(b, a)
			for _, w := range append(answers(a, b), answers(b, b)...) {
				spoil(w)
			}
			if !aRight() || !bRight() {
				t.Fatalf("%+v or %+v was changed", x, y)
			}
		}
	}
}
