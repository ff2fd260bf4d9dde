package term_test

import (
	"slices"
	"strings"
	"testing"

	"rubric/api"
	"rubric/term"
	"rubric/wild"
)

func TestP1503Names(t *testing.T) {
	a, x := elem("a"), elem("u:a")
	for i, c := range []struct {
		l    []term.Term
		want []string
	}{
		{nil, []string{"?", "?:?"}},
		{[]term.Term{a}, []string{"?", "a", "?:?"}}, {[]term.Term{a, a}, []string{"?", "a", "?:?"}}, {[]term.Term{x}, []string{"?", "?:?", "u:?", "u:a"}},
		{[]term.Term{x, elem("b"), a, x}, []string{"?", "a", "b", "?:?", "u:?", "u:a"}},
		{[]term.Term{elem("A"), elem("Z:z"), elem("Z:B")}, []string{"?", "A", "?:?", "Z:?", "Z:B", "Z:z"}},
		// Names rise by the space, and only then by the Local; `!` is less than `?`, `@` is more.
		{[]term.Term{elem("!"), elem("@"), elem("!:z"), elem("@:a")}, []string{"!", "?", "@", "!:?", "!:z", "?:?", "@:?", "@:a"}},
		{[]term.Term{elem("b:a"), elem("a:b"), elem("ab:c")}, []string{"?", "?:?", "a:?", "a:b", "ab:?", "ab:c", "b:?", "b:a"}},
		{[]term.Term{anyOf(every())}, []string{"?", "?:?"}}, {[]term.Term{anyOf(other("u"))}, []string{"?", "?:?", "u:?"}}, {[]term.Term{anyOf(other(""))}, []string{"?", "?:?"}},
		{[]term.Term{anyOf(these())}, []string{"?", "?:?"}}, {[]term.Term{anyOf(these(""))}, []string{"?", "?:?"}}, {[]term.Term{anyOf(these("", "u", "v"))}, []string{"?", "?:?", "u:?", "v:?"}},
		{[]term.Term{a, anyOf(these("u", "w")), anyOf(other("v")), x, anyOf(these("t", "w"))}, []string{"?", "a", "?:?", "t:?", "u:?", "u:a", "v:?", "w:?"}},
		// As many more signs as it takes: a Local that any Elem has, whatever its space, a space that any has.
		{[]term.Term{elem("?")}, []string{"?", "??", "?:??"}}, {[]term.Term{elem("u:?")}, []string{"??", "?:??", "u:?", "u:??"}}, {[]term.Term{elem("?"), elem("u:??")}, []string{"?", "???", "?:???", "u:??", "u:???"}},
		{[]term.Term{elem("??")}, []string{"?", "??", "?:?"}}, {[]term.Term{elem("?"), elem("???")}, []string{"?", "??", "???", "?:??"}}, {[]term.Term{elem("?a")}, []string{"?", "?a", "?:?"}},
		{[]term.Term{elem("?:a")}, []string{"?", "?:?", "?:a", "??:?"}}, {[]term.Term{anyOf(other("?"))}, []string{"?", "?:?", "??:?"}}, {[]term.Term{anyOf(these("?", "??"))}, []string{"?", "?:?", "??:?", "???:?"}}, {[]term.Term{anyOf(these("??"))}, []string{"?", "?:?", "??:?"}},
		{[]term.Term{elem("?:?"), anyOf(other("??"))}, []string{"??", "?:?", "?:??", "??:??", "???:??"}}, {[]term.Term{elem("?:??")}, []string{"?", "?:?", "?:??", "??:?"}},
		// Occurs and the leaf's number say nothing.
		{[]term.Term{times(0, 0, a), times(3, -1, x)}, []string{"?", "a", "?:?", "u:?", "u:a"}}, {[]term.Term{{Kind: term.Elem, Name: name("a"), Leaf: 3}, {Kind: term.Any, W: wild.Wild{How: wild.Other, Not: "u"}}}, []string{"?", "a", "?:?", "u:?"}},
		// Only a wildcard has a W.
		{[]term.Term{{Kind: term.Elem, Name: name("a"), W: wild.Wild{Not: "v", Spaces: []string{"w"}}}}, []string{"?", "a", "?:?"}}, {[]term.Term{{Kind: term.Any, Name: name("v:b"), W: every()}}, []string{"?", "?:?"}},
		{[]term.Term{empty()}, []string{"?", "?:?"}},
	} {
		var want []api.Name
		for _, n := range c.want {
			want = append(want, name(n))
		}
		for _, l := range [][]term.Term{c.l, backward(c.l), {seq(c.l...)}} {
			if got := term.Names(l...); !slices.Equal(got, want) {
				t.Errorf("%d: %v; want %v", i, got, want)
			}
		}
	}
}

func backward(l []term.Term) []term.Term {
	l = slices.Clone(l)
	slices.Reverse(l)
	return l
}

// TestP1503TheyStandForAll: whatever name there is, just the leaves hit it that hit
// one of Names; and there are no more than these take.
func TestP1503TheyStandForAll(t *testing.T) {
	d := newDice(4)
	spaces := []string{"", "?", "??", "???", "u", "v", "w", "?u"}
	locals := []string{"?", "??", "???", "a", "b", "z"}
	for range 4000 {
		var l []term.Term
		for range d.Throw(5) {
			l = append(l, d.oddLeaf(spaces, locals))
		}
		got := term.Names(l...)
		if !slices.IsSortedFunc(got, func(a, b api.Name) int {
			return slices.Compare([]string{a.Space, a.Local}, []string{b.Space, b.Local})
		}) || len(slices.Compact(slices.Clone(got))) != len(got) {
			t.Fatalf("%s: %v", tell(seq(l...)), got)
		}
		for _, space := range append(spaces, "beyond") {
			for _, local := range append(locals, "beyond") {
				n := api.Name{Space: space, Local: local}
				if !slices.ContainsFunc(got, func(m api.Name) bool { return hits(l, m) == hits(l, n) }) {
					t.Fatalf("%s: none of %v stands for %v", tell(seq(l...)), got, n)
				}
			}
		}
		if want := said(l); !slices.Equal(got, want) {
			t.Fatalf("%s: %v; want %v", tell(seq(l...)), got, want)
		}
	}
}

func (d dice) oddLeaf(spaces, locals []string) term.Term {
	space := func() string { return spaces[d.Throw(len(spaces))] }
	switch d.Throw(6) {
	case 0:
		return anyOf(every())
	case 1:
		return anyOf(other(space()))
	case 2:
		l := []string{space(), space(), space()}[:d.Throw(4)]
		slices.Sort(l)
		return anyOf(these(slices.Compact(l)...))
	}
	return term.Term{Kind: term.Elem, Min: 1, Max: 1, Name: api.Name{Space: space(), Local: locals[d.Throw(len(locals))]}}
}

// hits answers which of the leaves hit a name.
func hits(l []term.Term, n api.Name) string {
	out := ""
	for _, leaf := range l {
		if hit(leaf, n) {
			out += "1"
		} else {
			out += "0"
		}
	}
	return out
}

// said answers Names as the chapter says them, by sets of names.
func said(l []term.Term) []api.Name {
	spaces, locals, all := map[string]int{"": 0}, map[string]int{}, map[api.Name]int{}
	for _, leaf := range l {
		if leaf.Kind == term.Elem {
			spaces[leaf.Name.Space], locals[leaf.Name.Local], all[leaf.Name] = 0, 0, 0
			continue
		}
		for _, s := range append([]string{leaf.W.Not}, leaf.W.Spaces...) {
			spaces[s] = 0
		}
	}
	fresh := func(m map[string]int) string {
		text := "?"
		for _, known := m[text]; known; _, known = m[text] {
			text += "?"
		}
		return text
	}
	spaces[fresh(spaces)] = 0
	for space := range spaces {
		all[api.Name{Space: space, Local: fresh(locals)}] = 0
	}
	var out []api.Name
	for n := range all {
		out = append(out, n)
	}
	slices.SortFunc(out, func(a, b api.Name) int {
		if a.Space != b.Space {
			return strings.Compare(a.Space, b.Space)
		}
		return strings.Compare(a.Local, b.Local)
	})
	return out
}

// TestP1503Many: as many leaves as a term may have, and more, called by signs alone.
func TestP1503Many(t *testing.T) {
	got := term.Names(elems(5000)...)
	if len(got) != 5002 || got[0] != name("?") || got[1] != name("e1000") || got[2] != name("e1001") || got[3] != name("e1002") || got[5001] != name("?:?") {
		t.Errorf("%d: %v", len(got), got[:4])
	}
	var l []term.Term
	for i := range 3000 {
		l = append(l, elem(strings.Repeat("?", 3000-i)))
	}
	if got := term.Names(l...); len(got) != 3002 || got[3000].Local != strings.Repeat("?", 3001) || got[3001].Space != "?" {
		t.Errorf("%d", len(got))
	}
	for i := range l {
		l[i] = anyOf(other(l[i].Name.Local))
	}
	if got := term.Names(l...); len(got) != 3002 || got[3001] != (api.Name{Space: strings.Repeat("?", 3001), Local: "?"}) {
		t.Errorf("%d", len(got))
	}
}
