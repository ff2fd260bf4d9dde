package auto

import (
	"rubric/api"
	"rubric/glush"
	"rubric/term"
)

// Expr answers the expression whose words are those of a term, said by its leaves'
// numbers.
func Expr(t term.Term) glush.Expr {
	var w writer
	e := w.expr(&t)
	if w.tooMany() {
		return glush.Expr{}
	}
	return e
}

// writer writes a term as an expression. It gives up where there are too many terms:
// a list made by hand may stand in many places, and even in itself.
type writer struct {
	terms  int // how many were come to
	leaves int // how many of them are leaves
}

func (w *writer) tooMany() bool { return w.terms > api.MaxNodes }

func (w *writer) expr(t *term.Term) glush.Expr {
	e := w.once(t)
	if t.Min == 1 && t.Max == 1 {
		return e
	}
	return glush.Expr{Kind: glush.Rep, Min: t.Min, Max: t.Max, Kids: []glush.Expr{e}}
}

// once writes a term that stands just once.
func (w *writer) once(t *term.Term) glush.Expr {
	w.terms++
	switch t.Kind {
	case term.Elem, term.Any:
		w.leaves++
		return glush.Expr{Kind: glush.Sym, Sym: w.leaves - 1}
	case term.Seq:
		return glush.Expr{Kind: glush.Seq, Kids: w.kids(t)}
	case term.Choice:
		if len(t.Kids) == 0 {
			return glush.Expr{Kind: glush.None}
		}
		return glush.Expr{Kind: glush.Alt, Kids: w.kids(t)}
	case term.Empty:
		return glush.Expr{Kind: glush.Empty}
	}
	return glush.Expr{}
}

func (w *writer) kids(t *term.Term) []glush.Expr {
	var l []glush.Expr
	for i := range t.Kids {
		if w.tooMany() {
			break
		}
		l = append(l, w.expr(&t.Kids[i]))
	}
	return l
}
