package wild_test

import (
	"math/rand"
	"slices"
	"strconv"
	"testing"

	"rubric/wild"
)

// meaning is what a wildcard allows, space by space: of some spaces that are named,
// and, as the last one, of all that are not: a wildcard does not tell them apart.
type meaning []bool

// noSpace stands for those that are not named.
const noSpace = "a space that no wildcard of these tests names"

func mean(w wild.Wild, named []string) meaning {
	var m meaning
	for _, space := range append(slices.Clone(named), noSpace) {
		switch w.How {
		case wild.Every:
			m = append(m, true)
		case wild.Other:
			m = append(m, space != w.Not && space != "")
		case wild.These:
			m = append(m, slices.Contains(w.Spaces, space))
		}
	}
	return m
}

// beside answers what f makes of two meanings, space by space.
func beside(a, b meaning, f func(x, y bool) bool) meaning {
	var m meaning
	for i := range a {
		m = append(m, f(a[i], b[i]))
	}
	return m
}

// saying answers the wildcard that allows just m, by trial of all that the named
// spaces make; the zero one, if there is none.
func saying(m meaning, named []string, process int) wild.Wild {
	list := []wild.Wild{every(process), these(process)}
	for i, space := range named {
		list = append(list, other(space, process))
		if m[i] {
			list[1].Spaces = append(list[1].Spaces, space)
		}
	}
	for _, w := range list {
		if slices.Equal(mean(w, named), m) {
			return w
		}
	}
	return wild.Wild{}
}

// everyWild answers all wildcards over the named spaces, which rise.
func everyWild(named []string) []wild.Wild {
	var out []wild.Wild
	for process := wild.Strict; process <= wild.Skip; process++ {
		out = append(out, every(process))
		for _, space := range named {
			out = append(out, other(space, process))
		}
		for bits := range 1 << len(named) {
			var list []string
			for i, space := range named {
				if bits>>i&1 == 1 {
					list = append(list, space)
				}
			}
			out = append(out, these(process, list...))
		}
	}
	return out
}

// holdPair holds all calls of two wildcards to their meanings.
func holdPair(t *testing.T, a, b wild.Wild, named []string) {
	t.Helper()
	x, y := mean(a, named), mean(b, named)
	less := beside(x, y, func(x, y bool) bool { return !x || y })
	if got, want := wild.Sub(a, b), !slices.Contains(less, false); got != want {
		t.Fatalf("Sub %+v, %+v: %v", a, b, got)
	}
	if got, want := wild.Same(a, b), slices.Equal(x, y) && a.Process == b.Process; got != want {
		t.Fatalf("Same %+v, %+v: %v", a, b, got)
	}
	alike := saying(beside(x, y, func(x, y bool) bool { return x && y }), named, a.Process)
	if w, is := wild.Both(a, b); !equal(w, alike) || is != (alike.How != 0) {
		t.Fatalf("Both %+v, %+v: %+v, %v; want %+v", a, b, w, is, alike)
	}
	joint := saying(beside(x, y, func(x, y bool) bool { return x || y }), named, a.Process)
	if w, is := wild.Union(a, b); !equal(w, joint) || is != (joint.How != 0) {
		t.Fatalf("Union %+v, %+v: %+v, %v; want %+v", a, b, w, is, joint)
	}
}

// TestP1402EveryPair: all pairs of all wildcards over four spaces.
func TestP1402EveryPair(t *testing.T) {
	named := []string{"", "a", "b", "c"}
	list := everyWild(named)
	for _, a := range list {
		if !wild.Right(a) {
			t.Fatalf("%+v is Right", a)
		}
		for i, space := range append(slices.Clone(named), noSpace) {
			if wild.Allows(a, space) != mean(a, named)[i] {
				t.Fatalf("%+v, %q", a, space)
			}
		}
		for _, b := range list {
			holdPair(t, a, b, named)
		}
	}
}

// TestP1402AnySpaces: wildcards of many spaces, some of which begin others.
func TestP1402AnySpaces(t *testing.T) {
	named := []string{""}
	for i := range 60 {
		named = append(named, strconv.FormatInt(int64(i), 3), "urn:"+strconv.FormatInt(int64(i), 2))
	}
	slices.Sort(named)
	named = slices.Compact(named)
	r := rand.New(rand.NewSource(14))
	draw := func() wild.Wild {
		process := 1 + r.Intn(3)
		switch r.Intn(8) {
		case 0:
			return every(process)
		case 1, 2:
			return other(named[r.Intn(len(named))], process)
		}
		w, most := these(process), 1+r.Intn(10)
		for _, space := range named {
			if r.Intn(10) < most {
				w.Spaces = append(w.Spaces, space)
			}
		}
		return w
	}
	for range 4000 {
		holdPair(t, draw(), draw(), named)
	}
}

// TestP1402ManySpaces: lists as long as a text of 65536 bytes can name, and longer.
func TestP1402ManySpaces(t *testing.T) {
	var odd, even []string
	for i := range 200000 {
		space := strconv.Itoa(1000000 + i)
		if i%2 == 0 {
			even = append(even, space)
		} else {
			odd = append(odd, space)
		}
	}
	a, b := these(wild.Lax, even...), these(wild.Skip, odd...)
	all, is := wild.Union(a, b)
	if !is || !wild.Right(all) || len(all.Spaces) != 200000 || all.Process != wild.Lax {
		t.Fatalf("Union: %d", len(all.Spaces))
	}
	if none, is := wild.Both(a, b); !is || !wild.Right(none) || len(none.Spaces) != 0 {
		t.Fatalf("Both: %d", len(none.Spaces))
	}
	if back, is := wild.Both(b, all); !is || !wild.Same(back, b) {
		t.Fatal("Both of what Union made")
	}
	if !wild.Sub(a, all) || !wild.Sub(b, all) || wild.Sub(all, a) || !wild.Allows(all, odd[77]) || wild.Allows(all, "1") {
		t.Fatal("Sub, Allows")
	}
}
