package term

import "rubric/api"

// leastCut is the greatest number that Least answers.
const leastCut = 1 << 20

// noWord is what Least answers, if there is no word.
const noWord = -1

// Empties answers whether the empty row is a word.
func Empties(t Term) bool { return Least(t) == 0 }

// Least answers how many names a term's shortest word has.
func Least(t Term) int {
	if Check(t) != api.OK {
		return noWord
	}
	// An All's words have as many names in whatever order they stand.
	m := meaning[int]{func(*Term) int { return 1 }, leastRow, leastChoice, leastTimes}
	return m.of(&t)
}

func leastRow(l ...int) int {
	all := 0
	for _, n := range l {
		if n == noWord {
			return noWord
		}
		all = min(all+n, leastCut)
	}
	return all
}

func leastChoice(l ...int) int {
	best := noWord
	for _, n := range l {
		if best == noWord || n != noWord && n < best {
			best = n
		}
	}
	return best
}

func leastTimes(least, _, n int) int {
	if least == 0 {
		return 0
	}
	if n == noWord {
		return noWord
	}
	return min(least*n, leastCut)
}
