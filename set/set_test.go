package set_test

import (
	"math"
	"slices"
	"testing"

	"rubric/set"
)

// all is how many letters there are, the last of them all less 1.
const all = 0x110000

// bits is a set said letter by letter.
type bits []bool

// mark puts ranges into a set of letters from 0 on, one letter at a time.
func mark(l []set.Range) bits {
	m := make(bits, all)
	for _, r := range l {
		for c := max(int(r.Lo), 0); c <= min(int(r.Hi), all-1); c++ {
			m[c] = true
		}
	}
	return m
}

// ranges tells the one row of ranges that m's letters have.
func (m bits) ranges() set.Set {
	var s set.Set
	for c, in := range m {
		if in && (c == 0 || !m[c-1]) {
			s = append(s, set.Range{Lo: rune(c)})
		}
		if in && (c == len(m)-1 || !m[c+1]) {
			s[len(s)-1].Hi = rune(c)
		}
	}
	return s
}

func rg(lo, hi rune) set.Range { return set.Range{Lo: lo, Hi: hi} }

// count is how many letters m has.
func (m bits) count() int {
	n := 0
	for _, in := range m {
		if in {
			n++
		}
	}
	return n
}

func TestP701Of(t *testing.T) {
	for _, c := range []struct {
		name string
		l    []set.Range
		want set.Set
	}{
		{"no range", nil, nil},
		{"an empty list", []set.Range{}, nil},
		{"one letter", []set.Range{rg('a', 'a')}, set.Set{rg('a', 'a')}},
		{"Lo above Hi by one", []set.Range{rg('b', 'a')}, nil},
		{"Lo above Hi beside a right one", []set.Range{rg('z', 'a'), rg('c', 'd')}, set.Set{rg('c', 'd')}},
		{"Lo above Hi over the bounds", []set.Range{rg(all, -1), rg(math.MaxInt32, math.MinInt32)}, nil},
		{"in no order", []set.Range{rg('x', 'y'), rg('a', 'b'), rg('m', 'n')}, set.Set{rg('a', 'b'), rg('m', 'n'), rg('x', 'y')}},
		{"a gap of one", []set.Range{rg('a', 'b'), rg('d', 'e')}, set.Set{rg('a', 'b'), rg('d', 'e')}},
		{"no gap", []set.Range{rg('a', 'b'), rg('c', 'e')}, set.Set{rg('a', 'e')}},
		{"no gap, in no order", []set.Range{rg('c', 'e'), rg('a', 'b')}, set.Set{rg('a', 'e')}},
		{"one over the other", []set.Range{rg('a', 'd'), rg('c', 'e')}, set.Set{rg('a', 'e')}},
		{"one within the other", []set.Range{rg('a', 'e'), rg('b', 'c')}, set.Set{rg('a', 'e')}},
		{"one within the other, then one that touches", []set.Range{rg('a', 'e'), rg('b', 'c'), rg('f', 'f')}, set.Set{rg('a', 'f')}},
		{"one within the other, then one in its room", []set.Range{rg('a', 'e'), rg('b', 'b'), rg('d', 'd')}, set.Set{rg('a', 'e')}},
		{"twice the same", []set.Range{rg('a', 'b'), rg('a', 'b')}, set.Set{rg('a', 'b')}},
		{"the same beginning", []set.Range{rg('a', 'b'), rg('a', 'd'), rg('a', 'c')}, set.Set{rg('a', 'd')}},
		{"a bridge", []set.Range{rg('a', 'b'), rg('e', 'f'), rg('c', 'd')}, set.Set{rg('a', 'f')}},
		{"0 and the last", []set.Range{rg(0, 0), rg(all-1, all-1)}, set.Set{rg(0, 0), rg(all-1, all-1)}},
		{"all", []set.Range{rg(0, all-1)}, set.Set{rg(0, all-1)}},
		{"more than all", []set.Range{rg(math.MinInt32, math.MaxInt32)}, set.Set{rg(0, all-1)}},
		{"below 0 in part", []set.Range{rg(-3, 4)}, set.Set{rg(0, 4)}},
		{"below 0 up to 0", []set.Range{rg(-3, 0)}, set.Set{rg(0, 0)}},
		{"below 0", []set.Range{rg(-3, -1), rg(math.MinInt32, math.MinInt32)}, nil},
		{"beyond the last in part", []set.Range{rg(all-2, all+7)}, set.Set{rg(all-2, all-1)}},
		{"the last and one more", []set.Range{rg(all-1, all)}, set.Set{rg(all-1, all-1)}},
		{"beyond the last", []set.Range{rg(all, all+7), rg(math.MaxInt32, math.MaxInt32)}, nil},
		{"what is no letter of a text", []set.Range{rg(0xD800, 0xDFFF)}, set.Set{rg(0xD800, 0xDFFF)}},
	} {
		if got := set.Of(c.l...); !slices.Equal(got, c.want) || !got.Right() {
			t.Errorf("%s: Of(%v): %v; want %v", c.name, c.l, got, c.want)
		}
	}
}

func TestP701Right(t *testing.T) {
	for _, c := range []struct {
		s    set.Set
		want bool
	}{
		{nil, true},
		{set.Set{}, true},
		{set.Set{rg(0, 0)}, true},
		{set.Set{rg(all-1, all-1)}, true},
		{set.Set{rg(0, all-1)}, true},
		{set.Set{rg(1, 2), rg(4, 5)}, true},
		{set.Set{rg(1, 2), rg(4, 5), rg(7, 7), rg(9, 9)}, true},
		{set.Set{rg(0, all-3), rg(all-1, all-1)}, true},
		{set.Set{rg(1, 2), rg(3, 5)}, false},
		{set.Set{rg(1, 2), rg(2, 5)}, false},
		{set.Set{rg(1, 2), rg(1, 2)}, false},
		{set.Set{rg(1, 9), rg(2, 5)}, false},
		{set.Set{rg(4, 5), rg(1, 2)}, false},
		{set.Set{rg(1, 2), rg(4, 5), rg(6, 7)}, false},
		{set.Set{rg(1, 2), rg(7, 8), rg(4, 5)}, false},
		{set.Set{rg(2, 1)}, false},
		{set.Set{rg(1, 2), rg(9, 8)}, false},
		{set.Set{rg(1, 2), rg(4, 3)}, false},
		{set.Set{rg(-1, 2)}, false},
		{set.Set{rg(-1, -1)}, false},
		{set.Set{rg(math.MinInt32, math.MaxInt32)}, false},
		{set.Set{rg(1, all)}, false},
		{set.Set{rg(all, all)}, false},
		{set.Set{rg(0, all-2), rg(all, all)}, false},
		{set.Set{rg(1, math.MaxInt32), rg(5, 6)}, false},
		{set.Set{rg(1, math.MaxInt32-1), rg(5, 6)}, false},
	} {
		if got := c.s.Right(); got != c.want {
			t.Errorf("%v.Right(): %v", c.s, got)
		}
	}
}

// TestP701RightOfEveryPair holds Right against what the document says of two
// ranges.
func TestP701RightOfEveryPair(t *testing.T) {
	for _, low := range []rune{-2, 3, all - 4} {
		var l []set.Range
		for lo := low; lo < low+6; lo++ {
			for hi := low; hi < low+6; hi++ {
				l = append(l, rg(lo, hi))
			}
		}
		one := func(r set.Range) bool { return 0 <= r.Lo && r.Lo <= r.Hi && r.Hi <= 0x10FFFF }
		for _, a := range l {
			if got := (set.Set{a}).Right(); got != one(a) {
				t.Fatalf("[%v].Right(): %v", a, got)
			}
			for _, b := range l {
				want := one(a) && one(b) && b.Lo-a.Hi >= 2
				if got := (set.Set{a, b}).Right(); got != want {
					t.Fatalf("[%v %v].Right(): %v", a, b, got)
				}
			}
		}
	}
}

func TestP701HasAndSize(t *testing.T) {
	for _, s := range []set.Set{
		nil,
		{rg(0, 0)},
		{rg(all-1, all-1)},
		{rg(0, all-1)},
		{rg('a', 'z')},
		{rg(0, 1), rg(3, 3), rg(5, 9), rg(0xD800, 0xDFFF), rg(0xFFFE, 0xFFFF), rg(all-2, all-1)},
		{rg(2, 2), rg(4, 4), rg(6, 6), rg(8, 8), rg(10, 10), rg(12, 12), rg(14, 14)},
	} {
		m := mark(s)
		for c := range rune(all) {
			if s.Has(c) != m[c] {
				t.Fatalf("%v.Has(%x): %v", s, c, s.Has(c))
			}
		}
		for _, c := range []rune{math.MinInt32, -all, -1, all, all + 5, math.MaxInt32} {
			if s.Has(c) {
				t.Errorf("%v.Has(%d)", s, c)
			}
		}
		if got := s.Size(); got != m.count() {
			t.Errorf("%v.Size(): %d; want %d", s, got, m.count())
		}
	}
}

// window is a few letters, of which every subset is a set: the first letters, the
// last ones, some between.
const window = 7

// subset is the set of those letters from low on whose bit is 1.
func subset(low rune, mask int) set.Set {
	var s set.Set
	for k := 0; k < window; k++ {
		if mask>>k&1 == 0 {
			continue
		}
		c := low + rune(k)
		if n := len(s); n > 0 && s[n-1].Hi == c-1 {
			s[n-1].Hi = c
		} else {
			s = append(s, rg(c, c))
		}
	}
	return s
}

func lows() []rune { return []rune{0, 'a', 0xD7FC, all - window} }

// TestP701EverySubset: of every two sets of a few letters every answer is the one
// row of ranges of those letters that are to be in it.
func TestP701EverySubset(t *testing.T) {
	const most = 1<<window - 1
	for _, low := range lows() {
		for a := 0; a <= most; a++ {
			s := subset(low, a)
			for b := 0; b <= most; b++ {
				r := subset(low, b)
				if got, want := set.Union(s, r), subset(low, a|b); !slices.Equal(got, want) {
					t.Fatalf("Union(%v, %v): %v", s, r, got)
				}
				if got, want := set.Both(s, r), subset(low, a&b); !slices.Equal(got, want) {
					t.Fatalf("Both(%v, %v): %v", s, r, got)
				}
				if got, want := set.Minus(s, r), subset(low, a&^b); !slices.Equal(got, want) {
					t.Fatalf("Minus(%v, %v): %v", s, r, got)
				}
				if got := set.Same(s, r); got != (a == b) {
					t.Fatalf("Same(%v, %v): %v", s, r, got)
				}
			}
		}
	}
}

// TestP701NotOfEverySubset: Not has the window's other letters and all outside.
func TestP701NotOfEverySubset(t *testing.T) {
	for _, low := range lows() {
		for a := 0; a < 1<<window; a++ {
			s := subset(low, a)
			outside := set.Of(rg(0, low-1), rg(low+window, all-1))
			want := set.Of(append(subset(low, (1<<window-1)&^a), outside...)...)
			got := s.Not()
			if !slices.Equal(got, want) || !got.Right() || got.Size() != all-s.Size() {
				t.Fatalf("%v.Not(): %v; want %v", s, got, want)
			}
			if !set.Same(got.Not(), s) {
				t.Fatalf("%v.Not().Not(): %v", s, got.Not())
			}
		}
	}
}

func TestP701NotAtTheBounds(t *testing.T) {
	for _, c := range []struct{ s, want set.Set }{
		{nil, set.Set{rg(0, all-1)}},
		{set.Set{}, set.Set{rg(0, all-1)}},
		{set.Set{rg(0, all-1)}, nil},
		{set.Set{rg(0, 5)}, set.Set{rg(6, all-1)}},
		{set.Set{rg(1, 5)}, set.Set{rg(0, 0), rg(6, all-1)}},
		{set.Set{rg(9, all-1)}, set.Set{rg(0, 8)}},
		{set.Set{rg(9, all-2)}, set.Set{rg(0, 8), rg(all-1, all-1)}},
		{set.Set{rg(0, 3), rg(5, all-1)}, set.Set{rg(4, 4)}},
	} {
		if got := c.s.Not(); !slices.Equal(got, c.want) {
			t.Errorf("%v.Not(): %v; want %v", c.s, got, c.want)
		}
	}
}

// numbers is a row of numbers that look like any and are always the same.
type numbers uint64

func (n *numbers) below(most int) int {
	*n = *n*6364136223846793005 + 1442695040888963407
	return int(uint64(*n) >> 33 % uint64(most))
}

// some answers ranges that lie anywhere, some of them wrong way round or beyond
// the bounds.
func (n *numbers) some(count int) []set.Range {
	l := make([]set.Range, n.below(count+1))
	for i := range l {
		lo := n.below(all+200) - 100
		l[i] = rg(rune(lo), rune(lo+n.below(60000)-5000))
	}
	return l
}

// TestP701AnyRanges holds every call against sets said letter by letter.
func TestP701AnyRanges(t *testing.T) {
	n := numbers(7)
	for range 40 {
		x, y := n.some(30), n.some(30)
		a, b := set.Of(x...), set.Of(y...)
		m, k := mark(x), mark(y)
		not, union, both, minus := make(bits, all), make(bits, all), make(bits, all), make(bits, all)
		for c := range m {
			not[c], union[c], both[c], minus[c] = !m[c], m[c] || k[c], m[c] && k[c], m[c] && !k[c]
			if a.Has(rune(c)) != m[c] {
				t.Fatalf("Of(%v).Has(%x): %v", x, c, !m[c])
			}
		}
		for name, c := range map[string]struct {
			got  set.Set
			want bits
		}{
			"Of":    {a, m},
			"Not":   {a.Not(), not},
			"Union": {set.Union(a, b), union},
			"Both":  {set.Both(a, b), both},
			"Minus": {set.Minus(a, b), minus},
		} {
			if want := c.want.ranges(); !slices.Equal(c.got, want) || !c.got.Right() || c.got.Size() != c.want.count() {
				t.Fatalf("%s of %v and %v: %v; want %v", name, x, y, c.got, want)
			}
		}
	}
}

// TestP701OfInAnyOrder: the order of the ranges, and those that are there twice,
// turn nothing.
func TestP701OfInAnyOrder(t *testing.T) {
	n := numbers(3)
	for range 200 {
		l := n.some(40)
		want := set.Of(l...)
		for range 5 {
			for i := range l {
				k := n.below(i + 1)
				l[i], l[k] = l[k], l[i]
			}
			if got := set.Of(append(l, l[:len(l)/2]...)...); !slices.Equal(got, want) {
				t.Fatalf("Of(%v): %v; want %v", l, got, want)
			}
		}
	}
}

func TestP701Same(t *testing.T) {
	for _, c := range []struct {
		a, b set.Set
		want bool
	}{
		{nil, set.Set{}, true},
		{nil, nil, true},
		{set.Set{rg(1, 2)}, set.Set{rg(1, 2)}, true},
		{nil, set.Set{rg(0, 0)}, false},
		{set.Set{rg(1, 2)}, set.Set{rg(1, 3)}, false},
		{set.Set{rg(1, 2)}, set.Set{rg(0, 2)}, false},
		{set.Set{rg(1, 2)}, set.Set{rg(1, 2), rg(4, 4)}, false},
		{set.Set{rg(1, 2), rg(4, 4)}, set.Set{rg(1, 2), rg(5, 5)}, false},
	} {
		if set.Same(c.a, c.b) != c.want || set.Same(c.b, c.a) != c.want {
			t.Errorf("Same(%v, %v): not %v", c.a, c.b, c.want)
		}
	}
}

// TestP701ManyRanges: as many ranges as a set can have, and many more.
func TestP701ManyRanges(t *testing.T) {
	var even, odd set.Set
	for c := rune(0); c < all; c += 2 {
		even = append(even, rg(c, c))
		odd = append(odd, rg(c+1, c+1))
	}
	whole := set.Of(rg(0, all-1))
	back := slices.Clone(even)
	slices.Reverse(back)
	wide := make([]set.Range, 1<<20)
	for i := range wide {
		wide[i] = rg(rune(1<<20-i), all-1)
	}
	if !even.Right() || even.Size() != all/2 || !slices.Equal(set.Of(back...), even) || !slices.Equal(even.Not(), odd) {
		t.Error("every other letter")
	}
	if !slices.Equal(set.Union(even, odd), whole) || len(set.Both(even, odd)) != 0 || !slices.Equal(set.Minus(whole, odd), even) {
		t.Error("every other letter and the others")
	}
	if got := set.Of(wide...); !slices.Equal(got, set.Set{rg(1, all-1)}) {
		t.Errorf("ranges within one another: %d", len(got))
	}
	for c := rune(0); c < all; c++ {
		if even.Has(c) == odd.Has(c) || even.Has(c) != (c%2 == 0) {
			t.Fatalf("Has(%x)", c)
		}
	}
}
