package pat_test

import (
	"strings"
	"testing"

	"rubric/api"
	"rubric/pat"
	"rubric/set"
)

// dice are numbers that look thrown, the same in each run.
type dice uint64

func (d *dice) throw(n int) int {
	*d = *d*6364136223846793005 + 1442695040888963407
	return int(uint64(*d) >> 33 % uint64(n))
}

// one answers one of the texts.
func (d *dice) one(of ...string) string {
	return of[d.throw(len(of))]
}

// pattern answers a pattern of at most so many brackets within one another, and
// the tree that it must have.
func (d *dice) pattern(room int) (string, pat.Node) {
	s, n := d.row(room)
	if d.throw(3) > 0 {
		return s, n
	}
	l := []pat.Node{n}
	for range 1 + d.throw(3) {
		more, n := d.row(room)
		s += "|" + more
		l = append(l, n)
	}
	return s, alt(l...)
}

func (d *dice) row(room int) (string, pat.Node) {
	s := ""
	var l []pat.Node
	for range d.throw(4) {
		w, n := d.piece(room)
		s += w
		l = append(l, n)
	}
	switch len(l) {
	case 0:
		return "", empty()
	case 1:
		return s, l[0]
	}
	return s, seq(l...)
}

func (d *dice) piece(room int) (string, pat.Node) {
	s, n := d.atom(room)
	a := d.throw(1001)
	b := a + d.throw(1001-a)
	switch d.throw(12) {
	case 0:
		return s + "?", rep(0, 1, n)
	case 1:
		return s + "*", rep(0, -1, n)
	case 2:
		return s + "+", rep(1, -1, n)
	case 3:
		return s + "{" + number(a) + "}", rep(a, a, n)
	case 4:
		return s + "{" + number(a) + ",}", rep(a, -1, n)
	case 5:
		return s + "{" + number(a) + "," + number(b) + "}", rep(a, b, n)
	}
	return s, n
}

func (d *dice) atom(room int) (string, pat.Node) {
	if room > 0 && d.throw(3) == 0 {
		s, n := d.pattern(room - 1)
		return "(" + s + ")", n
	}
	if room > 0 && d.throw(3) == 0 {
		s, c := d.class(room)
		return s, pat.Node{Kind: pat.Sym, Set: c}
	}
	switch d.throw(4) {
	case 0:
		return ".", symOf(rg(0, 9), rg(0xB, 0xC), rg(0xE, all-1))
	case 1:
		s, c := d.escape()
		return s, pat.Node{Kind: pat.Sym, Set: c}
	}
	s := d.one("a", "b", "-", "^", "$", ",", "1", "\u00e9", "\u20ac", "\U0001F600", " ", "\n", "\x00")
	return s, sym(s)
}

// escape answers an escape and its set.
func (d *dice) escape() (string, set.Set) {
	name := d.one("Lu", "Ll", "L", "Nd", "N", "P", "S", "Z", "C")
	category, _ := set.Category(name)
	switch d.throw(4) {
	case 0:
		return "\\p{" + name + "}", category
	case 1:
		return "\\P{" + name + "}", category.Not()
	}
	const known = "sicdwSICDWnrt.\\?*+()|[]{}-^"
	i := d.throw(len(known))
	s, _ := escapeOf(rune(known[i]))
	return "\\" + known[i:i+1], s
}

// ends answers one letter of a class and how it may be written there, at the ends
// of a range too.
func (d *dice) ends() (string, rune) {
	const signs = ".\\?*+()|[]{}-^"
	switch i := d.throw(len(signs)); d.throw(4) {
	case 0:
		return "\\" + signs[i:i+1], rune(signs[i])
	case 1:
		return "\\t", 9
	}
	s := d.one("a", "b", "z", "0", "9", ".", "?", "*", "+", "(", ")", "|", "{", "}", ",", " ", "\u00e9", "\u20ac", "\U0001F600")
	return s, []rune(s)[0]
}

func (d *dice) class(room int) (string, set.Set) {
	s := d.one("", "^")
	not := s == "^"
	var l []set.Range
	if d.throw(4) == 0 {
		s += "-"
		l = append(l, rg('-', '-'))
	}
	for range 1 + d.throw(4) {
		if d.throw(4) == 0 {
			w, c := d.escape()
			s += w
			l = append(l, c...)
			continue
		}
		w, lo := d.ends()
		v, hi := d.ends()
		if d.throw(2) == 0 || lo > hi {
			s += w
			l = append(l, rg(lo, lo))
			continue
		}
		s += w + "-" + v
		l = append(l, rg(lo, hi))
	}
	if d.throw(4) == 0 {
		s += "-"
		l = append(l, rg('-', '-'))
	}
	c := set.Of(l...)
	if not {
		c = c.Not()
	}
	if room > 1 && d.throw(3) == 0 {
		w, less := d.class(room - 1)
		s += "-" + w
		c = set.Minus(c, less)
	}
	return "[" + s + "]", c
}

func TestP802WrittenPatterns(t *testing.T) {
	d := dice(1)
	for range 40000 {
		s, want := d.pattern(4)
		if len(s) <= api.MaxToken {
			checkTree(t, s, want)
		}
	}
}

// spoil alters a text in one place.
func (d *dice) spoil(s string) string {
	i := d.throw(len(s) + 1)
	j := min(i+d.throw(3), len(s))
	return s[:i] + d.one("", "", "a", "|", "(", ")", "[", "]", "-", "^", "\\", "{", "}", "*", "?", ",", "1", "-[", "]]", "{2,1}", "\\q", "\\p{", "\\p{Lt}", "\xff", "\u20ac"[:d.throw(4)]) + s[j:]
}

// TestP802SpoiltPatterns: whatever is wrong, its place is in the text or its end,
// beside it there is nothing, and what stands ahead of it could be right.
func TestP802SpoiltPatterns(t *testing.T) {
	d := dice(2)
	faults := 0
	for range 40000 {
		s, _ := d.pattern(4)
		for range 1 + d.throw(2) {
			s = d.spoil(s)
		}
		n, at, err := pat.Parse(s)
		if len(s) > api.MaxToken || err == api.OK {
			continue
		}
		faults++
		if err != api.ErrForm && err != api.ErrOdd || at < 0 || at > len(s) || !same(n, pat.Node{}) {
			t.Fatalf("%q: %s, %d, %v", s, tell(n), at, err)
		}
		// A sign that is at fault where it begins leaves a front that is right or ends
		// too early.
		if _, at2, err2 := pat.Parse(s[:at]); err2 != api.OK && (err2 != api.ErrForm || at2 != at) {
			t.Fatalf("%q: %d, %v; its front: %d, %v", s, at, err, at2, err2)
		}
		if err == api.ErrOdd && !odd.MatchString(s[at:]) {
			t.Fatalf("%q: %d, %v", s, at, err)
		}
	}
	if faults < 10000 {
		t.Errorf("%d faults", faults)
	}
}

// TestP1EveryFewBytes: no text makes it panic.
func TestP1EveryFewBytes(t *testing.T) {
	for a := range 256 {
		for b := range 256 {
			for _, front := range []string{"", "[", "[a-", "\\", "a{", "\\p{", "(a|"} {
				for _, back := range []string{"", "]", "}", ")"} {
					s := front + string([]byte{byte(a), byte(b)}) + back
					if n, at, err := pat.Parse(s); err == api.OK && at != 0 || at < 0 || at > len(s) || err != api.OK && !same(n, pat.Node{}) {
						t.Fatalf("%q: %s, %d, %v", s, tell(n), at, err)
					}
				}
			}
		}
	}
}

// TestP1DearPatterns: what is dear for its length ends soon.
func TestP1DearPatterns(t *testing.T) {
	for _, s := range []string{"\\i", "\\C", "\\W", "\\P{P}", "[\\i\\c]", "[^\\w-[\\d]]", "()", "|", "(|)", "a{1000}", "[a-[a]]", "\U0001F600"} {
		whole := strings.Repeat(s, api.MaxToken/len(s))
		if _, at, err := pat.Parse(whole); err != api.OK {
			t.Errorf("%.20q: %d, %v", whole, at, err)
		}
		inside := "[" + strings.Repeat("\\i\\C\\W", 600) + "]"
		if n, at, err := pat.Parse(inside); err != api.OK || n.Kind != pat.Sym {
			t.Errorf("%.20q: %d, %v", inside, at, err)
		}
	}
}
