package glush

import (
	"rubric/api"
	"rubric/words"
)

// maxDepth is how many expressions may stand within one another.
const maxDepth = 200

// fits answers whether an expression is neither too deep nor has too many nodes.
// It leaves with the first node that is too much: one list may stand in many
// places of a tree made by hand, and even in itself.
func fits(e *Expr, depth int, nodes *int) bool {
	*nodes++
	if depth > maxDepth || *nodes > api.MaxNodes {
		return false
	}
	for i := range e.Kids {
		if !fits(&e.Kids[i], depth+1, nodes) {
			return false
		}
	}
	return true
}

// right answers whether an expression that fits has no number that may not be.
func right(e *Expr) bool {
	switch e.Kind {
	case Empty, None:
		return true
	case Sym:
		return e.Sym >= 0
	case Rep:
		if len(e.Kids) != 1 || !words.Bounded(e.Min, e.Max) {
			return false
		}
	case Seq, Alt:
	default:
		return false
	}
	for i := range e.Kids {
		if !right(&e.Kids[i]) {
			return false
		}
	}
	return true
}
