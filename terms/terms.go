// Package terms: terms as tests write, throw, tell and compare them.
package terms

import (
	"slices"
	"strconv"
	"strings"

	"rubric/api"
	"rubric/term"
	"rubric/wild"
)

// Name answers the name that `space:local` tells, or `local`.
func Name(text string) api.Name {
	if space, local, ok := strings.Cut(text, ":"); ok {
		return api.Name{Space: space, Local: local}
	}
	return api.Name{Local: text}
}

// Names answers a name for each word of a text.
func Names(text string) []api.Name {
	var l []api.Name
	for _, word := range strings.Fields(text) {
		l = append(l, Name(word))
	}
	return l
}

// Elem answers an element of a name, which stands just once, as all that is made here.
func Elem(text string) term.Term {
	return term.Term{Kind: term.Elem, Min: 1, Max: 1, Name: Name(text)}
}

// Elems answers n elements with names of their own, which rise if they are as long.
func Elems(n int) []term.Term {
	var l []term.Term
	for i := range n {
		l = append(l, Elem("e"+strconv.Itoa(1000+i)))
	}
	return l
}

// Any answers a leaf of any names that a wildcard allows.
func Any(w wild.Wild) term.Term { return term.Term{Kind: term.Any, Min: 1, Max: 1, W: w} }

// Every answers the wildcard of all spaces.
func Every() wild.Wild { return wild.Wild{How: wild.Every, Process: wild.Strict} }

// Other answers the wildcard of all spaces but one, and but none.
func Other(not string) wild.Wild {
	return wild.Wild{How: wild.Other, Not: not, Process: wild.Lax}
}

// These answers the wildcard of some spaces.
func These(l ...string) wild.Wild {
	return wild.Wild{How: wild.These, Spaces: slices.Clone(l), Process: wild.Skip}
}

// Of answers a term of a kind and some kids.
func Of(kind int, kids ...term.Term) term.Term {
	return term.Term{Kind: kind, Min: 1, Max: 1, Kids: slices.Clone(kids)}
}

// Seq answers kids one behind the other.
func Seq(kids ...term.Term) term.Term { return Of(term.Seq, kids...) }

// Choice answers one of some kids.
func Choice(kids ...term.Term) term.Term { return Of(term.Choice, kids...) }

// All answers kids in any order.
func All(kids ...term.Term) term.Term { return Of(term.All, kids...) }

// Empty answers what no name stands in.
func Empty() term.Term { return Of(term.Empty) }

// Times answers t with another Min and Max.
func Times(least, most int, t term.Term) term.Term {
	t.Min, t.Max = least, most
	return t
}

// Maybe answers t once or not at all.
func Maybe(t term.Term) term.Term { return Times(0, 1, t) }

// Deep answers t within n terms of a kind.
func Deep(n, kind int, t term.Term) term.Term {
	for range n {
		t = Of(kind, t)
	}
	return t
}
