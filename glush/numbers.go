package glush

import (
	"math/bits"
	"slices"
)

// wide is how many numbers a word of bits has room for.
const wide = 64

// numbers is a set of numbers from 0 on, as bits: words[0] has those from low*wide
// on, and neither the first nor the last word is 0. So a few numbers far from 0
// take little room.
type numbers struct {
	low   int
	words []uint64
}

func single(n int) numbers {
	return numbers{low: n / wide, words: []uint64{1 << (n % wide)}}
}

func (s numbers) empty() bool { return len(s.words) == 0 }

func (s numbers) has(n int) bool {
	i := n/wide - s.low
	return i >= 0 && i < len(s.words) && s.words[i]>>(n%wide)&1 == 1
}

func (s *numbers) add(n int) {
	s.reach(n/wide, n/wide+1)
	s.words[n/wide-s.low] |= 1 << (n % wide)
}

// merge puts all of t into s.
func (s *numbers) merge(t numbers) {
	if t.empty() {
		return
	}
	s.reach(t.low, t.low+len(t.words))
	for i, w := range t.words {
		s.words[t.low-s.low+i] |= w
	}
}

// reach makes room for the words from low on, ahead of high; what has no room yet
// is about to be filled at its ends.
func (s *numbers) reach(low, high int) {
	if s.empty() {
		s.low = low
	}
	if low < s.low {
		s.words = slices.Concat(make([]uint64, s.low-low), s.words)
		s.low = low
	}
	if more := high - s.low - len(s.words); more > 0 {
		s.words = append(s.words, make([]uint64, more)...)
	}
}

// less answers s without t, as new memory.
func (s numbers) less(t numbers) numbers {
	out := s.clone()
	for i := range out.words {
		if at := s.low + i - t.low; at >= 0 && at < len(t.words) {
			out.words[i] &^= t.words[at]
		}
	}
	for !out.empty() && out.words[0] == 0 {
		out.low, out.words = out.low+1, out.words[1:]
	}
	for !out.empty() && out.words[len(out.words)-1] == 0 {
		out.words = out.words[:len(out.words)-1]
	}
	return out
}

func (s numbers) clone() numbers {
	return numbers{low: s.low, words: slices.Clone(s.words)}
}

// each goes over the numbers, rising.
func (s numbers) each(yield func(int) bool) {
	for i, w := range s.words {
		for ; w != 0; w &= w - 1 {
			if !yield((s.low+i)*wide + bits.TrailingZeros64(w)) {
				return
			}
		}
	}
}

// list answers the numbers, rising; of none an empty list, not nil.
func (s numbers) list() []int { return slices.AppendSeq([]int{}, s.each) }

// text is a set as a map's key.
type text struct {
	low   int
	words string
}

func (s numbers) text() text {
	b := make([]byte, 0, len(s.words)*wide/8)
	for _, w := range s.words {
		for at := 0; at < wide; at += 8 {
			b = append(b, byte(w>>at))
		}
	}
	return text{low: s.low, words: string(b)}
}
