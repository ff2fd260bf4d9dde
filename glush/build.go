package glush

import (
	"slices"

	"rubric/nums"
)

// builder numbers positions as they are come to, and gathers what may follow each.
type builder struct {
	syms   []int
	follow []nums.Set
}

// part is what is known of the words of one piece of an expression. Each part has
// sets of its own: who is handed one may fill them.
type part struct {
	nullable    bool
	first, last nums.Set
}

// part writes out an expression that Check takes.
func (b *builder) part(e *Expr) part {
	switch e.Kind {
	case Sym:
		return b.position(e.Sym)
	case Seq:
		all := part{nullable: true}
		for i := range e.Kids {
			all = b.join(all, b.part(&e.Kids[i]))
		}
		return all
	case Alt:
		var all part
		for i := range e.Kids {
			p := b.part(&e.Kids[i])
			all.nullable = all.nullable || p.nullable
			all.first.Merge(p.first)
			all.last.Merge(p.last)
		}
		return all
	case Rep:
		return b.repeat(e)
	}
	return part{nullable: e.Kind == Empty}
}

func (b *builder) position(sym int) part {
	n := len(b.syms)
	b.syms = append(b.syms, sym)
	b.follow = append(b.follow, nums.Set{})
	return part{first: nums.One(n), last: nums.One(n)}
}

// repeat writes out a Rep's kid as often as need be, and joins the copies from the
// last one on, as those behind the least number are nested in one another.
func (b *builder) repeat(e *Expr) part {
	var copies []part
	for range e.times() {
		known := len(b.syms)
		copies = append(copies, b.part(&e.Kids[0]))
		if len(b.syms) == known {
			// Without positions all copies together are as one, and Reps within
			// Reps would write out more than can ever be.
			break
		}
	}
	if e.Max == endless {
		again := copies[len(copies)-1]
		b.link(again.last, again.first)
	}
	rest := part{nullable: true}
	for i, p := range slices.Backward(copies) {
		rest = b.join(p, rest)
		rest.nullable = rest.nullable || i >= e.Min
	}
	return rest
}

// join puts q behind p.
func (b *builder) join(p, q part) part {
	b.link(p.last, q.first)
	if p.nullable {
		p.first.Merge(q.first)
	}
	if q.nullable {
		q.last.Merge(p.last)
	}
	return part{nullable: p.nullable && q.nullable, first: p.first, last: q.last}
}

// link lets each of next follow each of last.
func (b *builder) link(last, next nums.Set) {
	for p := range last.Each {
		b.follow[p].Merge(next)
	}
}

// auto tells the automaton of the whole expression.
func (b *builder) auto(p part) Auto {
	a := Auto{Syms: b.syms, Nullable: p.nullable, First: p.first.List(), Last: p.last.List()}
	for _, f := range b.follow {
		a.Follow = append(a.Follow, f.List())
	}
	return a
}
