// Package nums: sets of numbers from 0 on, as bits in slices.
package nums

import (
	"math/bits"
	"slices"
)

// wide is how many numbers a word of bits has room for.
const wide = 64

// Set is a set of numbers from 0 on: words[0] has those from low*wide on, and
// neither the first nor the last word is 0. So a few numbers far from 0 take
// little room. Copies of a Set share their words till one is a Clone.
type Set struct {
	low   int
	words []uint64
}

// One answers the set of one number.
func One(n int) Set {
	return Set{low: n / wide, words: []uint64{1 << (n % wide)}}
}

// Of answers the set of a list's numbers.
func Of(l []int) Set {
	var s Set
	for _, n := range l {
		s.Add(n)
	}
	return s
}

// Empty answers whether there is no number in s.
func (s Set) Empty() bool { return len(s.words) == 0 }

// Has answers whether n is in s.
func (s Set) Has(n int) bool {
	i := n/wide - s.low
	return i >= 0 && i < len(s.words) && s.words[i]>>(n%wide)&1 == 1
}

// Add puts n into s.
func (s *Set) Add(n int) {
	s.reach(n/wide, n/wide+1)
	s.words[n/wide-s.low] |= 1 << (n % wide)
}

// Merge puts all of t into s, and keeps nothing of t.
func (s *Set) Merge(t Set) {
	if t.Empty() {
		return
	}
	s.reach(t.low, t.low+len(t.words))
	for i, w := range t.words {
		s.words[t.low-s.low+i] |= w
	}
}

// reach makes room for the words from low on, ahead of high; what has no room yet
// is about to be filled at its ends.
func (s *Set) reach(low, high int) {
	if s.Empty() {
		s.low = low
	}
	if low < s.low {
		s.words = slices.Concat(make([]uint64, s.low-low), s.words)
		s.low = low
	}
	if more := high - s.low - len(s.words); more > 0 {
		s.words = append(s.words, make([]uint64, more)...)
	}
}

// Less answers s without t, as new memory.
func (s Set) Less(t Set) Set {
	out := s.Clone()
	for i := range out.words {
		if at := s.low + i - t.low; at >= 0 && at < len(t.words) {
			out.words[i] &^= t.words[at]
		}
	}
	return out.trim()
}

// Both answers what is in s and in t, as new memory.
func (s Set) Both(t Set) Set {
	low, high := max(s.low, t.low), min(s.low+len(s.words), t.low+len(t.words))
	if low >= high {
		return Set{}
	}
	out := Set{low: low, words: slices.Clone(s.words[low-s.low : high-s.low])}
	for i := range out.words {
		out.words[i] &= t.words[low-t.low+i]
	}
	return out.trim()
}

// Next answers each number of s and 1, as new memory.
func (s Set) Next() Set {
	out := Set{low: s.low, words: make([]uint64, len(s.words)+1)}
	for i, w := range s.words {
		out.words[i] |= w << 1
		out.words[i+1] = w >> (wide - 1)
	}
	return out.trim()
}

// trim drops words that are 0 at both ends.
func (s Set) trim() Set {
	for !s.Empty() && s.words[0] == 0 {
		s.low, s.words = s.low+1, s.words[1:]
	}
	for !s.Empty() && s.words[len(s.words)-1] == 0 {
		s.words = s.words[:len(s.words)-1]
	}
	return s
}

// Clone answers the same set, as new memory.
func (s Set) Clone() Set {
	return Set{low: s.low, words: slices.Clone(s.words)}
}

// Each goes over the numbers, rising.
func (s Set) Each(yield func(int) bool) {
	for i, w := range s.words {
		for ; w != 0; w &= w - 1 {
			if !yield((s.low+i)*wide + bits.TrailingZeros64(w)) {
				return
			}
		}
	}
}

// List answers the numbers, rising; of none an empty list, not nil.
func (s Set) List() []int { return slices.AppendSeq([]int{}, s.Each) }

// Key is a set as a map's key: the same sets have the same one.
type Key struct {
	low   int
	words string
}

// Key answers s's.
func (s Set) Key() Key {
	if s.Empty() {
		return Key{}
	}
	b := make([]byte, 0, len(s.words)*wide/8)
	for _, w := range s.words {
		for at := 0; at < wide; at += 8 {
			b = append(b, byte(w>>at))
		}
	}
	return Key{low: s.low, words: string(b)}
}
