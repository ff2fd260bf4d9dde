package term

import "slices"

// mostRows is how many rows are told.
const mostRows = 64

// rows are rows of numbers, all of one length, rising, each once; of more than are
// told the least ones. As they have one length, what is more than these is so with
// anything ahead of it or behind it.
type rows [][]int

// noNumber answers just the row of no number.
func noNumber() rows { return rows{{}} }

// with answers r, and each row of a with each of b behind it.
func (r rows) with(a, b rows) rows {
	if len(a) == 0 || len(b) == 0 {
		return r
	}
	out := make(rows, 0, mostRows)
	next := make([]int, 0, longest)
	for _, front := range a {
		for _, back := range b {
			next = append(append(next[:0], front...), back...)
			below := r.below(next)
			out, r = append(out, r[:below]...), r[below:]
			if len(out) >= mostRows {
				return out[:mostRows]
			}
			if len(r) == 0 || !slices.Equal(r[0], next) {
				out = append(out, slices.Clone(next))
			}
		}
	}
	out = append(out, r...)
	return out[:min(len(out), mostRows)]
}

// below answers how many of the rows are less than one.
func (r rows) below(row []int) int {
	n := 0
	for n < len(r) && slices.Compare(r[n], row) < 0 {
		n++
	}
	return n
}
