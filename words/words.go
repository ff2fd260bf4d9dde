// Package words: whether a row of symbols is a word, by what rows, choices and
// repetitions of words mean. It goes by sets of places between the symbols, and
// knows nothing of positions.
package words

import "rubric/nums"

// Length is how many symbols the row has of which is asked. Its places are
// numbered from 0 to Length.
type Length int

// Part says what words there are. It belongs to one Length, and may be part of no
// more than one other Part.
type Part struct {
	ends    func(from nums.Set) nums.Set // where words end that begin at one of from
	empty   bool                         // whether the empty word is one
	repeats bool                         // whether Times is part of it
}

// Is answers whether the whole row is one of p's words.
func (n Length) Is(p Part) bool {
	return p.ends(nums.One(0)).Has(int(n))
}

// Symbol answers the words of one symbol, which stands just behind the places at.
func Symbol(at nums.Set) Part {
	return Part{ends: func(from nums.Set) nums.Set { return from.Both(at).Next() }}
}

// Row answers the words of the parts, one behind the other; without parts just the
// empty word.
func Row(l ...Part) Part {
	row := Part{empty: true}
	for _, p := range l {
		row.empty = row.empty && p.empty
		row.repeats = row.repeats || p.repeats
	}
	row.ends = func(from nums.Set) nums.Set {
		for _, p := range l {
			if from.Empty() {
				break
			}
			from = p.ends(from)
		}
		return from
	}
	return row
}

// Choice answers the words of any of the parts; without parts none.
func Choice(l ...Part) Part {
	var choice Part
	for _, p := range l {
		choice.empty = choice.empty || p.empty
		choice.repeats = choice.repeats || p.repeats
	}
	choice.ends = func(from nums.Set) nums.Set {
		var all nums.Set
		for _, p := range l {
			all.Merge(p.ends(from))
		}
		return all
	}
	return choice
}
