package simple

import (
	"slices"
	"strings"

	"rubric/kind"
)

// Result is what a text tells by a type: the built-in kind, if it is Atomic; how the
// text was put, and as what; and its values.
type Result struct {
	Kind   int
	White  int
	Text   string
	Values []kind.Value
}

// Same tells whether two results are the same value by value; without values, by
// their texts.
func Same(a, b Result) bool {
	if len(a.Values) == 0 && len(b.Values) == 0 {
		return a.Text == b.Text
	}
	return slices.EqualFunc(a.Values, b.Values, kind.Same)
}

// Key answers a result's values as a text; without values, its own.
func Key(r Result) string {
	if len(r.Values) == 0 {
		return "text " + r.Text
	}
	var b strings.Builder
	for _, v := range r.Values {
		b.WriteString(kind.Name(v.Prim))
		b.WriteByte(' ')
		b.WriteString(kind.Text(v))
		b.WriteByte('\n')
	}
	return b.String()
}
