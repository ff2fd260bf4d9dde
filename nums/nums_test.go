package nums_test

import (
	"slices"
	"testing"

	"rubric/nums"
)

// dice are numbers that look thrown, the same in each run.
type dice uint64

func (d *dice) throw(n int) int {
	*d = *d*6364136223846793005 + 1442695040888963407
	return int(uint64(*d) >> 33 % uint64(n))
}

// numbers answers a few numbers, rising, often at the ends of a word of bits.
func (d *dice) numbers() []int {
	l := []int{}
	for range d.throw(6) {
		l = append(l, []int{d.throw(1000), 64*d.throw(6) + d.throw(2), 64*d.throw(6) + 63}[d.throw(3)])
	}
	slices.Sort(l)
	return slices.Compact(l)
}

func check(t *testing.T, what string, s nums.Set, want []int) {
	t.Helper()
	if got := s.List(); got == nil || !slices.Equal(got, want) {
		t.Fatalf("%s: %v; want %v", what, got, want)
	}
	if s.Empty() != (len(want) == 0) {
		t.Fatalf("%s: Empty: %v", what, s.Empty())
	}
	for n := range 1100 {
		if s.Has(n) != slices.Contains(want, n) {
			t.Fatalf("%s: Has(%d): %v", what, n, s.Has(n))
		}
	}
	if s.Key() != nums.Of(want).Key() {
		t.Fatalf("%s: the same set has another key", what)
	}
}

func filter(l []int, keep func(int) bool) []int {
	return slices.DeleteFunc(slices.Clone(l), func(n int) bool { return !keep(n) })
}

// TestSets holds every call against lists.
func TestSets(t *testing.T) {
	d := dice(1)
	for range 3000 {
		a, b := d.numbers(), d.numbers()
		in := func(n int) bool { return slices.Contains(b, n) }
		s, u := nums.Of(a), nums.Of(b)
		check(t, "Less", s.Less(u), filter(a, func(n int) bool { return !in(n) }))
		check(t, "Both", s.Both(u), filter(a, in))
		next := slices.Clone(a)
		for i := range next {
			next[i]++
		}
		check(t, "Next", s.Next(), next)
		all := s.Clone()
		all.Merge(u)
		both := slices.Concat(a, b)
		slices.Sort(both)
		check(t, "Merge", all, slices.Compact(both))
		// What was asked of a set, or put into its clone, has not turned it.
		check(t, "the first", s, a)
		check(t, "the second", u, b)
		if (s.Key() == u.Key()) != slices.Equal(a, b) {
			t.Fatalf("keys of %v and %v", a, b)
		}
		// Nor does what is added to an answer turn what it was made of.
		for _, answer := range []nums.Set{s.Less(u), s.Both(u), s.Next(), s.Clone()} {
			answer.Merge(nums.Of([]int{0, 70, 999}))
		}
		all.Add(1001)
		check(t, "the first", s, a)
		check(t, "the second", u, b)
	}
}

func TestOne(t *testing.T) {
	for _, n := range []int{0, 1, 62, 63, 64, 65, 127, 128, 1000} {
		check(t, "One", nums.One(n), []int{n})
	}
	check(t, "none", nums.Set{}, nil)
}

func TestEachIsLeft(t *testing.T) {
	var met []int
	for n := range nums.Of([]int{3, 64, 65, 300}).Each {
		met = append(met, n)
		if n == 65 {
			break
		}
	}
	if !slices.Equal(met, []int{3, 64, 65}) {
		t.Error(met)
	}
}
