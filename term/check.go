package term

import (
	"rubric/api"
	"rubric/wild"
	"rubric/words"
)

// Check answers what is wrong with a term.
func Check(t Term) api.Errno {
	if !t.fits() {
		return api.ErrMany
	}
	if !t.right() {
		return api.ErrArg
	}
	return api.OK
}

// fits answers whether there are neither too many terms in t nor too many within
// one another.
func (t *Term) fits() bool {
	terms := 0
	return t.fitsAt(1, &terms)
}

// fitsAt leaves with the first term that is too much: one list may stand in many
// places of a term made by hand, and even in itself.
func (t *Term) fitsAt(depth int, terms *int) bool {
	*terms++
	if depth > api.MaxDepth || *terms > api.MaxNodes {
		return false
	}
	for i := range t.Kids {
		if !t.Kids[i].fitsAt(depth+1, terms) {
			return false
		}
	}
	return true
}

// right answers whether a term that fits, and stands at the top, is as it must be.
func (t *Term) right() bool {
	if t.Kind == All {
		return words.Bounded(t.Min, t.Max) && t.Max == 1 && t.rightAll()
	}
	return t.rightWithin()
}

// rightWithin is right of a term that need not stand at the top.
func (t *Term) rightWithin() bool {
	if !words.Bounded(t.Min, t.Max) {
		return false
	}
	switch t.Kind {
	case Elem:
		return t.Name.Local != "" && len(t.Kids) == 0
	case Any:
		return wild.Right(t.W) && len(t.Kids) == 0
	case Empty:
		return len(t.Kids) == 0
	case Seq, Choice:
		for i := range t.Kids {
			if !t.Kids[i].rightWithin() {
				return false
			}
		}
		return true
	}
	return false
}

// rightAll answers whether an All has the kids that it may have.
func (t *Term) rightAll() bool {
	met := map[api.Name]int{}
	for i := range t.Kids {
		k := &t.Kids[i]
		if k.Kind != Elem || k.Max != 0 && k.Max != 1 || !k.rightWithin() {
			return false
		}
		if met[k.Name]++; met[k.Name] > 1 {
			return false
		}
	}
	return true
}
