package term

import (
	"rubric/api"
	"rubric/glush"
)

// longest is how many names a row may have, if Paths is to go over it.
const longest = 12

// Paths answers the rows of leaves' numbers by which w is a word, the least ones.
func Paths(t Term, w []api.Name) [][]int {
	if len(w) > longest || Check(t) != api.OK || t.positions() > api.MaxPos {
		return nil
	}
	if t.Kind == All {
		return t.onlyRow(w)
	}
	p := pathing{names: w}
	m := meaning[ways]{p.leaf, p.row, p.choice, p.times}
	return m.of(&t)[0][len(w)]
}

// onlyRow answers the row by which w is a word of an All, if it is one.
func (t *Term) onlyRow(w []api.Name) [][]int {
	row, ok := t.anyOrder(w)
	if !ok {
		return nil
	}
	return [][]int{row}
}

// positions answers how many t has; more than there may be, if there are too many.
func (t *Term) positions() int {
	if t.Kind == All {
		return len(t.Kids)
	}
	m := meaning[glush.Expr]{leafExpr, rowExpr, choiceExpr, timesExpr}
	return glush.Positions(m.of(t), api.MaxPos)
}

// leafExpr answers any symbol: they are counted alone.
func leafExpr(*Term) glush.Expr { return glush.Expr{Kind: glush.Sym} }

func rowExpr(l ...glush.Expr) glush.Expr { return glush.Expr{Kind: glush.Seq, Kids: l} }

func choiceExpr(l ...glush.Expr) glush.Expr { return glush.Expr{Kind: glush.Alt, Kids: l} }

func timesExpr(least, most int, e glush.Expr) glush.Expr {
	return glush.Expr{Kind: glush.Rep, Min: least, Max: most, Kids: []glush.Expr{e}}
}
