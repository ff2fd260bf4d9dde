package pat_test

import (
	"regexp"
	"slices"
	"strings"
	"testing"

	"rubric/api"
	"rubric/pat"
	"rubric/set"
)

// reading is one way in which a part of a pattern can be read: where it ends, and
// what it is.
type reading struct {
	end  int
	node pat.Node
}

// grammar says by the document's grammar alone, trying all that it leaves open,
// what a pattern is. Its patterns are of letters of one byte.
type grammar string

// at tells whether w stands at i.
func (g grammar) at(i int, w string) bool {
	return strings.HasPrefix(string(g[min(i, len(g)):]), w)
}

// patterns answers every reading of a pattern from i on: alternatives.
func (g grammar) patterns(i int) []reading {
	var out []reading
	var more func(i int, ahead []pat.Node)
	more = func(i int, ahead []pat.Node) {
		for _, r := range g.rows(i) {
			l := append(slices.Clone(ahead), r.node)
			n := l[0]
			if len(l) > 1 {
				n = alt(l...)
			}
			out = append(out, reading{r.end, n})
			if g.at(r.end, "|") {
				more(r.end+1, l)
			}
		}
	}
	more(i, nil)
	return out
}

// rows: pieces, none, one or more.
func (g grammar) rows(i int) []reading {
	var out []reading
	var more func(i int, ahead []pat.Node)
	more = func(i int, ahead []pat.Node) {
		n := empty()
		switch len(ahead) {
		case 0:
		case 1:
			n = ahead[0]
		default:
			n = seq(ahead...)
		}
		out = append(out, reading{i, n})
		for _, r := range g.pieces(i) {
			more(r.end, append(slices.Clone(ahead), r.node))
		}
	}
	more(i, nil)
	return out
}

// pieces: an atom, maybe with how often it stands.
func (g grammar) pieces(i int) []reading {
	var out []reading
	for _, r := range g.atoms(i) {
		out = append(out, r)
		for _, q := range g.times(r.end) {
			out = append(out, reading{q.end, rep(q.node.Min, q.node.Max, r.node)})
		}
	}
	return out
}

func (g grammar) times(i int) []reading {
	var out []reading
	say := func(end, least, most int) {
		out = append(out, reading{end, pat.Node{Min: least, Max: most}})
	}
	switch {
	case g.at(i, "?"):
		say(i+1, 0, 1)
	case g.at(i, "*"):
		say(i+1, 0, -1)
	case g.at(i, "+"):
		say(i+1, 1, -1)
	case g.at(i, "{"):
		for k, n := range g.numbers(i + 1) {
			if g.at(k, "}") {
				say(k+1, n, n)
			}
			if g.at(k, ",}") {
				say(k+2, n, -1)
			}
			if !g.at(k, ",") {
				continue
			}
			for k, m := range g.numbers(k + 1) {
				if g.at(k, "}") && n <= m {
					say(k+1, n, m)
				}
			}
		}
	}
	return out
}

// numbers answers the numbers that stand at i, by where they end.
func (g grammar) numbers(i int) map[int]int {
	out := map[int]int{}
	n := 0
	for k := i; k < min(i+4, len(g)) && g[k] >= '0' && g[k] <= '9'; k++ {
		n = 10*n + int(g[k]-'0')
		if n <= 1000 {
			out[k+1] = n
		}
	}
	return out
}

func (g grammar) atoms(i int) []reading {
	var out []reading
	say := func(end int, s set.Set) {
		out = append(out, reading{end, pat.Node{Kind: pat.Sym, Set: s}})
	}
	switch {
	case i >= len(g):
	case g[i] == '(':
		for _, r := range g.patterns(i + 1) {
			if g.at(r.end, ")") {
				out = append(out, reading{r.end + 1, r.node})
			}
		}
	case g[i] == '.':
		say(i+1, letters("\n\r").Not())
	case g[i] == '\\':
		return g.escapes(i)
	case g[i] == '[':
		return g.classes(i)
	case !strings.Contains("?*+)|]{}", string(g[i])):
		say(i+1, letters(string(g[i])))
	}
	return out
}

// escapes: from the backslash on.
func (g grammar) escapes(i int) []reading {
	if !g.at(i, "\\") || i+1 == len(g) {
		return nil
	}
	if s, known := escapeOf(rune(g[i+1])); known {
		return []reading{{i + 2, pat.Node{Kind: pat.Sym, Set: s}}}
	}
	for _, name := range []string{"Lu", "Ll", "L", "Nd", "N", "P", "S", "Z", "C"} {
		s, _ := set.Category(name)
		if w := "\\p{" + name + "}"; g.at(i, w) {
			return []reading{{i + len(w), pat.Node{Kind: pat.Sym, Set: s}}}
		}
		if w := "\\P{" + name + "}"; g.at(i, w) {
			return []reading{{i + len(w), pat.Node{Kind: pat.Sym, Set: s.Not()}}}
		}
	}
	return nil
}

// classes: from the bracket on.
func (g grammar) classes(i int) []reading {
	var out []reading
	first := i + 1
	not := g.at(first, "^")
	if not {
		first++
	}
	say := func(end int, s set.Set) {
		out = append(out, reading{end, pat.Node{Kind: pat.Sym, Set: s}})
	}
	var more func(i int, ahead set.Set)
	more = func(i int, ahead set.Set) {
		for _, r := range g.members(i, first) {
			s := set.Union(ahead, r.node.Set)
			more(r.end, s)
			if not {
				s = s.Not()
			}
			if g.at(r.end, "]") {
				say(r.end+1, s)
			}
			if !g.at(r.end, "-[") {
				continue
			}
			for _, less := range g.classes(r.end + 1) {
				if g.at(less.end, "]") {
					say(less.end+1, set.Minus(s, less.node.Set))
				}
			}
		}
	}
	more(first, nil)
	return out
}

// singles: a letter or an escape in a class whose first one stands at first.
func (g grammar) singles(i, first int) []reading {
	last := g.at(i+1, "]") || g.at(i+1, "-[")
	switch {
	case i >= len(g), g[i] == '[', g[i] == ']':
		return nil
	case g[i] == '\\':
		return g.escapes(i)
	case g[i] == '-' && i != first && !last:
		return nil
	}
	return []reading{{i + 1, sym(string(g[i]))}}
}

// members: a single one, or a range.
func (g grammar) members(i, first int) []reading {
	out := g.singles(i, first)
	for _, lo := range out {
		if g.at(i, "-") && i == first || lo.node.Set.Size() > 1 || !g.at(lo.end, "-") {
			continue
		}
		for _, hi := range g.singles(lo.end+1, first) {
			a, b := lo.node.Set[0].Lo, hi.node.Set[0].Lo
			if hi.node.Set.Size() == 1 && a <= b {
				out = append(out, reading{hi.end, symOf(rg(a, b))})
			}
		}
	}
	return out
}

// whole answers every reading of all of the pattern.
func (g grammar) whole() []pat.Node {
	var out []pat.Node
	for _, r := range g.patterns(0) {
		if r.end == len(g) {
			out = append(out, r.node)
		}
	}
	return out
}

// texts goes over all texts of at most so many of the given pieces.
func texts(front string, pieces []string, most int, visit func(s string)) {
	visit(front)
	if most == 0 {
		return
	}
	for _, w := range pieces {
		texts(front+w, pieces, most-1, visit)
	}
}

// undecided matches texts that end ahead of what will be wrong with them: within
// a name that none begins with, in a second number that is too small as yet, ahead
// of what says whether a range ends with a `-`.
var undecided = regexp.MustCompile(`\\[pP]\{[^}]*$|\{[0-9]+,[0-9]+$|---$`)

// mayGoOn tells whether something behind s makes a pattern of it.
func mayGoOn(s string) bool {
	for _, mid := range []string{"", "a", "}", "1}", "\\", "n", "{L}", "L}", "}a", "-[a]", "[a]"} {
		for classes := range strings.Count(s, "[") + 1 {
			for groups := range strings.Count(s, "(") + 1 {
				if _, _, err := pat.Parse(s + mid + strings.Repeat("]", classes) + strings.Repeat(")", groups)); err == api.OK {
					return true
				}
			}
		}
	}
	return false
}

// odd matches an escape with a name that is not known.
var odd = regexp.MustCompile(`^\\[pP]\{[^}]*\}`)

// checkText holds one text against the grammar: it has one reading at most, and
// that one's tree; of a fault the place is the end, if the text could go on or its
// fault is undecided, and a fault ahead of the end stays whatever follows.
func checkText(t *testing.T, s string) {
	t.Helper()
	want := grammar(s).whole()
	n, at, err := pat.Parse(s)
	switch {
	case len(want) > 1:
		t.Fatalf("%q: %d readings", s, len(want))
	case len(want) == 1:
		if err != api.OK || at != 0 || !same(n, want[0]) {
			t.Fatalf("%q: %s, %d, %v; want %s", s, tell(n), at, err, tell(want[0]))
		}
		return
	case err == api.OK || at < 0 || at > len(s) || !same(n, pat.Node{}):
		t.Fatalf("%q: %s, %d, %v", s, tell(n), at, err)
	case err != api.ErrForm && (err != api.ErrOdd || !odd.MatchString(s[at:])):
		t.Fatalf("%q: %s, %d, %v", s, tell(n), at, err)
	case at < len(s) && mayGoOn(s), at == len(s) && !mayGoOn(s) && !undecided.MatchString(s):
		t.Fatalf("%q: %d, %v", s, at, err)
	case at == len(s):
		return
	}
	for _, w := range []string{"a", "]", "-[", "}", ")"} {
		if _, at2, err2 := pat.Parse(s + w); at2 != at || err2 != err {
			t.Fatalf("%q: %d, %v; with %q: %d, %v", s, at, err, w, at2, err2)
		}
	}
}

// checkTexts goes over all texts of some pieces behind a front.
func checkTexts(t *testing.T, front, pieces string, most int) {
	t.Helper()
	texts(front, strings.Split(pieces, " "), most, func(s string) { checkText(t, s) })
}

func TestP801EveryShortText(t *testing.T) {
	checkTexts(t, "", "a | ( ) * ? { } 1 , . \\ [ ] - ^", 4)
	checkTexts(t, "(", "a | ( ) + .", 6)
	checkTexts(t, "a", "b * + ? {2} {1,} | )", 4)
}

func TestP801EveryShortClass(t *testing.T) {
	checkTexts(t, "[", "a b - [ ] ^ +", 6)
	checkTexts(t, "[", "b \\d \\n - ] [a] \\p{L} \\- [", 5)
	checkTexts(t, "[+-z-[", "a - [ ] ^ \\", 5)
	checkTexts(t, "[^", "- a ] [ -[ ]]", 5)
}

func TestP801EveryShortEscape(t *testing.T) {
	checkTexts(t, "\\", "p P { L } \\ n d", 4)
}

func TestP801EveryShortNumber(t *testing.T) {
	checkTexts(t, "a{", "0 1 2 , } x", 5)
	for n := range 1200 {
		for _, m := range []int{0, 1, n - 1, n, n + 1, 999, 1000, 1001} {
			a, b := rep(n, n, sym("a")), rep(n, m, sym("a"))
			checkNumbers(t, "{"+number(n)+"}", a, n <= 1000)
			checkNumbers(t, "{"+number(n)+","+number(m)+"}", b, m >= 0 && n <= m && m <= 1000)
		}
		checkNumbers(t, "{"+number(n)+",}", rep(n, -1, sym("a")), n <= 1000)
	}
}

func checkNumbers(t *testing.T, s string, want pat.Node, right bool) {
	t.Helper()
	if right {
		checkTree(t, "a"+s, want)
	} else {
		checkFault(t, "a"+s, 1, api.ErrForm)
	}
}
