package nfa

import (
	"slices"

	"rubric/glush"
	"rubric/pat"
	"rubric/set"
)

// translator says a pattern as glush's expression. A symbol is the number of its
// letters in sets: the same letters have the same one.
type translator struct {
	sets []set.Set
}

// expr answers n's expression. What has no positions, and so no word but the empty
// one, is Empty, and stands nowhere but once in an Alt: patterns of 4096 letters
// may have more such nodes than glush takes.
func (t *translator) expr(n *pat.Node) glush.Expr {
	switch n.Kind {
	case pat.Sym:
		return glush.Expr{Kind: glush.Sym, Sym: t.number(n.Set)}
	case pat.Seq:
		return join(glush.Seq, t.filled(n.Kids))
	case pat.Alt:
		l := t.filled(n.Kids)
		if len(l) < len(n.Kids) {
			l = append(l, glush.Expr{Kind: glush.Empty})
		}
		return join(glush.Alt, l)
	case pat.Rep:
		return t.repeat(n)
	}
	return glush.Expr{Kind: glush.Empty}
}

func (t *translator) repeat(n *pat.Node) glush.Expr {
	// Letters that stand no times are not even numbered.
	if n.Max == 0 {
		return glush.Expr{Kind: glush.Empty}
	}
	e := t.expr(&n.Kids[0])
	if e.Kind == glush.Empty {
		return e
	}
	return glush.Expr{Kind: glush.Rep, Min: n.Min, Max: n.Max, Kids: []glush.Expr{e}}
}

// filled answers the kids that are not Empty.
func (t *translator) filled(kids []pat.Node) []glush.Expr {
	var l []glush.Expr
	for i := range kids {
		if e := t.expr(&kids[i]); e.Kind != glush.Empty {
			l = append(l, e)
		}
	}
	return l
}

// join answers expressions as one of that kind, if that takes more than one.
func join(kind int, l []glush.Expr) glush.Expr {
	switch len(l) {
	case 0:
		return glush.Expr{Kind: glush.Empty}
	case 1:
		return l[0]
	}
	return glush.Expr{Kind: kind, Kids: l}
}

// number answers the symbol of letters.
func (t *translator) number(s set.Set) int {
	i := slices.IndexFunc(t.sets, func(known set.Set) bool { return set.Same(known, s) })
	if i >= 0 {
		return i
	}
	t.sets = append(t.sets, s)
	return len(t.sets) - 1
}
