package nfa_test

import (
	"regexp"
	"slices"
	"strings"
	"testing"

	"rubric/api"
	"rubric/char"
	"rubric/nfa"
	"rubric/pat"
)

// dice are numbers that look thrown, the same in each run.
type dice uint64

func (d *dice) throw(n int) int {
	*d = *d*6364136223846793005 + 1442695040888963407
	return int(uint64(*d) >> 33 % uint64(n))
}

// one answers one of the texts.
func (d *dice) one(of ...string) string { return of[d.throw(len(of))] }

// is says what a tree means by trying all ways to cut a text.
func is(n pat.Node, s []rune) bool {
	switch n.Kind {
	case pat.Empty:
		return len(s) == 0
	case pat.Sym:
		return len(s) == 1 && n.Set.Has(s[0])
	case pat.Seq:
		return isRow(n.Kids, s)
	case pat.Alt:
		return slices.ContainsFunc(n.Kids, func(k pat.Node) bool { return is(k, s) })
	}
	most := n.Max
	if most == -1 {
		// More words than letters and Min are more empty ones.
		most = n.Min + len(s)
	}
	for times := n.Min; times <= most; times++ {
		if isRow(slices.Repeat(n.Kids, times), s) {
			return true
		}
	}
	return false
}

func isRow(l []pat.Node, s []rune) bool {
	if len(l) == 0 {
		return len(s) == 0
	}
	for i := range len(s) + 1 {
		if is(l[0], s[:i]) && isRow(l[1:], s[i:]) {
			return true
		}
	}
	return false
}

// texts answers all texts of at most that many of the pieces.
func texts(most int, pieces ...string) []string {
	out := []string{""}
	for last := out; most > 0; most-- {
		var longer []string
		for _, s := range last {
			for _, w := range pieces {
				longer = append(longer, s+w)
			}
		}
		out = append(out, longer...)
		last = longer
	}
	return out
}

// TestP1001SmallPatterns holds both Matches against the meaning and against Go's
// expressions: all patterns of a few signs, all short texts.
func TestP1001SmallPatterns(t *testing.T) {
	words := texts(4, "a", "b")
	right := 0
	for _, p := range texts(6, "a", "b", "|", "(", ")", "?", "*", "{2}") {
		n, _, err := pat.Parse(p)
		if err != api.OK {
			continue
		}
		right++
		b := compiled(t, p)
		expr := regexp.MustCompile(`\A(?:` + p + `)\z`)
		for _, w := range words {
			want := expr.MatchString(w)
			if len(p) < 6 && is(n, []rune(w)) != want {
				t.Fatalf("%q: %q: %v", p, w, want)
			}
			b.check(t, w, want)
		}
		if t.Failed() {
			return
		}
	}
	if right < 10000 {
		t.Errorf("only %d patterns", right)
	}
}

// pattern answers a thrown pattern of at most so many brackets within one another.
func (d *dice) pattern(room int) string {
	s := d.row(room)
	for d.throw(3) == 0 {
		s += "|" + d.row(room)
	}
	return s
}

func (d *dice) row(room int) string {
	s := ""
	for range d.throw(4) {
		s += d.atom(room) + d.one("", "", "", "?", "*", "+", "{0}", "{1}", "{2}", "{0,2}", "{1,3}", "{2,}", "{3,4}")
	}
	return s
}

func (d *dice) atom(room int) string {
	if room > 0 && d.throw(3) == 0 {
		return "(" + d.pattern(room-1) + ")"
	}
	return d.one("a", "a", "b", "c", ".", "[ab]", "[^a]", "[a-c-[b]]", "\\d", "\\i", "\\c", "\\S", "\u00e9", "\\-")
}

// text answers a text that a tree takes, if its numbers are not too great.
func (d *dice) text(n pat.Node) string {
	s := ""
	switch n.Kind {
	case pat.Sym:
		for range 20 {
			if l := d.one("a", "b", "c", "1", "-", "\u00e9", "\u20ac", " "); n.Set.Has([]rune(l)[0]) {
				return l
			}
		}
	case pat.Seq:
		for _, k := range n.Kids {
			s += d.text(k)
		}
	case pat.Alt:
		return d.text(n.Kids[d.throw(len(n.Kids))])
	case pat.Rep:
		more := 4
		if n.Max >= 0 {
			more = n.Max - n.Min
		}
		for range n.Min + d.throw(more+1) {
			s += d.text(n.Kids[0])
		}
	}
	return s
}

// spoilt answers a text with one letter changed, dropped or put in.
func (d *dice) spoilt(s string) string {
	l := append([]rune(s), 'a')
	i := d.throw(len(l))
	other := []rune(d.one("a", "b", "1", "\u00e9", " ", "\n"))
	switch d.throw(3) {
	case 0:
		l[i] = other[0]
	case 1:
		l = slices.Delete(l, i, i+1)
	case 2:
		l = slices.Insert(l, i, other...)
	}
	return string(l)
}

// TestP1001ThrownPatterns holds both Matches against the meaning.
func TestP1001ThrownPatterns(t *testing.T) {
	d := dice(1)
	yes, no := 0, 0
	for range 12000 {
		p := d.pattern(3)
		n := parsed(t, p)
		if pat.Positions(n, 60) > 60 {
			continue
		}
		b := compiled(t, p)
		good := d.text(n)
		for _, s := range []string{good, d.spoilt(good), d.spoilt(""), d.one("", "ab", "aa", "abca")} {
			if len(s) > 9 {
				continue
			}
			want := is(n, []rune(s))
			b.check(t, s, want)
			if want {
				yes++
			} else {
				no++
			}
		}
		if t.Failed() {
			return
		}
	}
	if yes < 3000 || no < 3000 {
		t.Errorf("only %d words, %d others", yes, no)
	}
}

// TestP1001LongTexts holds both Matches against each other, of texts that are too
// long to try all cuts.
func TestP1001LongTexts(t *testing.T) {
	d := dice(2)
	yes, no := 0, 0
	for range 6000 {
		p := d.pattern(4) + d.pattern(2)
		n := parsed(t, p)
		if pat.Positions(n, api.MaxPos) > api.MaxPos {
			continue
		}
		b := compiled(t, p)
		for range 3 {
			good := d.text(n)
			for _, s := range []string{good, d.spoilt(good)} {
				want := nfa.Match(n, s)
				b.check(t, s, want)
				if want && len(s) > 20 {
					yes++
				} else if len(s) > 20 {
					no++
				}
			}
		}
		if t.Failed() {
			return
		}
	}
	if yes < 500 || no < 500 {
		t.Errorf("only %d words, %d others", yes, no)
	}
}

// TestP1001Letters: every set takes just its letters, at the ends of its ranges
// too.
func TestP1001Letters(t *testing.T) {
	for _, p := range []string{"a", ".", "\\s", "\\S", "\\i", "\\I", "\\c", "\\C", "\\d", "\\D", "\\w", "\\W", "\\p{P}", "\\P{P}", "\\p{S}", "\\p{Z}", "\\P{Z}", "[a-z]", "[^a-z]", "[\u00e9-\u20ac]", "[\U00010000-\U0010FFFF]", "[^\U0001F600]", "[a-z-[m-p]]", "[-a]", "[\\d\\s]", "\u20ac", "\U0010FFFF"} {
		b := compiled(t, p)
		ends := []rune{0, 9, 0xA, 0xD, 0x20, 0xD7FF, 0xE000, 0xFFFD, 0x10000, 0x10FFFF}
		for _, r := range b.n.Set {
			ends = append(ends, r.Lo-1, r.Lo, r.Hi, r.Hi+1)
		}
		for _, r := range ends {
			if !char.Char(r) {
				b.check(t, string(char.Encode(r)), false)
				continue
			}
			b.check(t, string(r), b.n.Set.Has(r))
			b.check(t, string(r)+string(r), false)
			two := compiled(t, "("+p+")b|a("+p+")")
			two.check(t, string(r)+"b", b.n.Set.Has(r) || r == 'a' && b.n.Set.Has('b'))
		}
	}
}

// TestP1001SameLetters: positions of the same letters, and of letters that have
// some together, are told apart by where they stand.
func TestP1001SameLetters(t *testing.T) {
	for _, c := range []table{
		{"a(b|a)*a", []string{"aa", "aba", "aaaa"}, []string{"a", "ab", "aab"}},
		{"[ab]c[ab]d[ab]", []string{"acbda", "bcadb"}, []string{"acb", "acbdc", "ccbda"}},
		{"[a-m][g-z][a-z]", []string{"amz", "gga", "mgz"}, []string{"nga", "aaz", "am"}},
		{"([ab]x|[bc]y)+", []string{"ax", "by", "bx", "cy", "axcybx"}, []string{"ay", "cx", "axay"}},
		{"(.a|b.)(.b|a.)", []string{"aaab", "bbbb", "bbaa", "xaxb"}, []string{"bbba", "abab", "axab"}},
	} {
		c.check(t)
	}
}

// TestP1001Numbers: of great numbers, each number of letters near them.
func TestP1001Numbers(t *testing.T) {
	for p, is := range map[string]func(n int) bool{
		"a{512}":                func(n int) bool { return n == 512 },
		"a{100,512}":            func(n int) bool { return n >= 100 && n <= 512 },
		"(a?){512}":             func(n int) bool { return n <= 512 },
		"a{500,}":               func(n int) bool { return n >= 500 },
		"(aa){0,256}":           func(n int) bool { return n <= 512 && n%2 == 0 },
		"(aa){64,}":             func(n int) bool { return n >= 128 && n%2 == 0 },
		"((a{4}){4}){32}":       func(n int) bool { return n == 512 },
		"((a?){16}){32}":        func(n int) bool { return n <= 512 },
		"(a{50,60}){3,5}":       func(n int) bool { return n >= 150 && n <= 180 || n >= 200 && n <= 240 || n >= 250 && n <= 300 },
		"(a{7}|a{11})*":         func(n int) bool { return sum(n, 7, 11) },
		"((a{4,5}){3,}){2,}":    func(n int) bool { return n >= 24 },
		"(a{63}|a{64}|a{65})?":  func(n int) bool { return n == 0 || n >= 63 && n <= 65 },
		"((a|aa){2,3}){2}|a{9}": func(n int) bool { return n >= 4 && n <= 12 },
	} {
		b := compiled(t, p)
		for n := range 601 {
			b.check(t, strings.Repeat("a", n), is(n))
		}
	}
}

// sum answers whether n is a sum of as and bs.
func sum(n, a, b int) bool {
	for n >= 0 && n%a != 0 {
		n -= b
	}
	return n >= 0
}
