package terms

import (
	"slices"
	"strconv"
	"strings"

	"rubric/api"
	"rubric/term"
	"rubric/wild"
)

// Tell answers a term as a text, to be read in a test's words.
func Tell(t term.Term) string {
	text := once(t)
	if t.Min != 1 || t.Max != 1 {
		text += "{" + strconv.Itoa(t.Min) + "," + strconv.Itoa(t.Max) + "}"
	}
	return text
}

// once tells a term without its Min and Max.
func once(t term.Term) string {
	switch t.Kind {
	case term.Elem:
		return t.Name.Space + ":" + t.Name.Local
	case term.Any:
		return "<" + strconv.Itoa(t.W.How) + " " + t.W.Not + strings.Join(t.W.Spaces, ",") + ">"
	case term.Empty:
		return "empty"
	}
	var l []string
	for _, k := range t.Kids {
		l = append(l, Tell(k))
	}
	return "[" + strconv.Itoa(t.Kind) + " " + strings.Join(l, " ") + "]"
}

// Same answers whether both have the same fields; no list is an empty one.
func Same(a, b term.Term) bool {
	if a.Kind != b.Kind || a.Min != b.Min || a.Max != b.Max || a.Name != b.Name || a.Leaf != b.Leaf {
		return false
	}
	return sameWild(a.W, b.W) && slices.EqualFunc(a.Kids, b.Kids, Same)
}

func sameWild(a, b wild.Wild) bool {
	return a.How == b.How && a.Not == b.Not && a.Process == b.Process && slices.Equal(a.Spaces, b.Spaces)
}

// Hit answers whether a name may stand where a leaf does: the meaning of term.Hits
// and wild.Allows, said a second time.
func Hit(leaf term.Term, n api.Name) bool {
	if leaf.Kind == term.Elem {
		return leaf.Name.Space == n.Space && leaf.Name.Local == n.Local
	}
	switch leaf.W.How {
	case wild.Every:
		return true
	case wild.Other:
		return n.Space != "" && n.Space != leaf.W.Not
	}
	return slices.Contains(leaf.W.Spaces, n.Space)
}
