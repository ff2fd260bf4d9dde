package words_test

import (
	"strconv"
	"strings"
	"testing"

	"rubric/nums"
	"rubric/words"
)

// dice are numbers that look thrown, the same in each run.
type dice uint64

func (d *dice) throw(n int) int {
	*d = *d*6364136223846793005 + 1442695040888963407
	return int(uint64(*d) >> 33 % uint64(n))
}

// language is words that are said twice: as a Part, and by trying all cuts.
type language struct {
	text string
	part func(w string) words.Part
	is   func(w string) bool
}

func letter(c string) language {
	return language{c, func(w string) words.Part {
		var at nums.Set
		for i := range w {
			if w[i:i+1] == c {
				at.Add(i)
			}
		}
		return words.Symbol(at)
	}, func(w string) bool { return w == c }}
}

func parts(l []language, w string) []words.Part {
	var out []words.Part
	for _, k := range l {
		out = append(out, k.part(w))
	}
	return out
}

func texts(l []language) string {
	var out []string
	for _, k := range l {
		out = append(out, k.text)
	}
	return "(" + strings.Join(out, " ") + ")"
}

// isRow tries all cuts.
func isRow(l []language, w string) bool {
	if len(l) == 0 {
		return w == ""
	}
	for i := range len(w) + 1 {
		if l[0].is(w[:i]) && isRow(l[1:], w[i:]) {
			return true
		}
	}
	return false
}

func row(l ...language) language {
	return language{"row" + texts(l), func(w string) words.Part { return words.Row(parts(l, w)...) }, func(w string) bool { return isRow(l, w) }}
}

func choice(l ...language) language {
	return language{"choice" + texts(l), func(w string) words.Part { return words.Choice(parts(l, w)...) }, func(w string) bool {
		for _, k := range l {
			if k.is(w) {
				return true
			}
		}
		return false
	}}
}

func times(least, most int, k language) language {
	return language{k.text + "{" + strconv.Itoa(least) + "," + strconv.Itoa(most) + "}", func(w string) words.Part {
		return words.Length(len(w)).Times(least, most, k.part(w))
	}, func(w string) bool {
		last := most
		if most == words.Endless {
			last = least + len(w)
		}
		for n := least; n <= last; n++ {
			var l []language
			for range n {
				l = append(l, k)
			}
			if isRow(l, w) {
				return true
			}
		}
		return false
	}}
}

func (d *dice) language(depth int) language {
	if depth == 0 {
		return []language{letter("a"), letter("b"), letter("a"), row(), choice()}[d.throw(5)]
	}
	var l []language
	for range 1 + d.throw(3) {
		l = append(l, d.language(d.throw(depth)))
	}
	least := d.throw(4)
	switch d.throw(4) {
	case 0:
		return row(l...)
	case 1:
		return choice(l...)
	case 2:
		return times(least, words.Endless, d.language(depth-1))
	}
	return times(least, least+d.throw(3), d.language(depth-1))
}

func check(t *testing.T, l language, w string) {
	t.Helper()
	if got := words.Length(len(w)).Is(l.part(w)); got != l.is(w) {
		t.Fatalf("%s: %q: %v", l.text, w, got)
	}
}

// TestWords holds what Parts say against trying all cuts.
func TestWords(t *testing.T) {
	d := dice(1)
	for range 4000 {
		l := d.language(1 + d.throw(4))
		for range 6 {
			w := ""
			for range d.throw(6) {
				w += "aab"[d.throw(3):][:1]
			}
			check(t, l, w)
		}
	}
}

// TestTimesInTimes: what is known of a set, or of a place, is not taken for
// another's; of a short word all that is kept is soon full.
func TestTimesInTimes(t *testing.T) {
	d := dice(2)
	for range 1500 {
		l := d.language(1)
		for range 2 + d.throw(2) {
			least := d.throw(3)
			l = times(least, least+d.throw(2), choice(l, d.language(0)))
		}
		for n := range 7 {
			check(t, l, "aaaaaa"[:n])
			check(t, l, "abaaba"[:n])
		}
	}
}

// TestTimesEnd: of more words than can ever be.
func TestTimesEnd(t *testing.T) {
	w := strings.Repeat("a", 300)
	for _, c := range []struct {
		least, most int
		inner       language
		want        bool
	}{{1, 2, letter("a"), true}, {2, 2, choice(letter("a"), row(letter("a"), letter("a"))), false}, {0, words.Endless, letter("a"), true}, {1000, 1000, choice(letter("a"), row()), true}, {7, 11, choice(row(letter("a"), letter("a")), letter("b")), false}} {
		for i, wrap := range []func(language) language{
			func(l language) language { return l },
			func(l language) language { return row(row(), l) },
			func(l language) language { return choice(choice(), l) },
		} {
			l := c.inner
			for range 40 {
				l = times(c.least, c.most, wrap(l))
			}
			if got := words.Length(len(w)).Is(l.part(w)); got != c.want {
				t.Errorf("%d: %d to %d of %s: %v", i, c.least, c.most, c.inner.text, got)
			}
		}
	}
}

func TestBounded(t *testing.T) {
	for _, c := range []struct {
		least, most int
		want        bool
	}{
		{0, 0, true}, {0, 1, true}, {1, 1, true}, {0, 1000, true}, {1000, 1000, true}, {0, words.Endless, true}, {1000, words.Endless, true},
		{-1, 1, false}, {-1, words.Endless, false}, {1001, words.Endless, false}, {1001, 1001, false}, {2, 1, false}, {1, 0, false}, {0, 1001, false}, {1000, 1001, false}, {0, -2, false}, {-2, -2, false},
		{0, 1<<63 - 1, false}, {1<<63 - 1, 1<<63 - 1, false}, {-1 << 63, 1, false}, {0, -1 << 63, false},
	} {
		if got := words.Bounded(c.least, c.most); got != c.want {
			t.Errorf("%d to %d: %v", c.least, c.most, got)
		}
	}
}
