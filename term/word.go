package term

import (
	"rubric/api"
	"rubric/nums"
	"rubric/words"
)

// Word answers whether w is a word of a term, by the term's meaning alone.
func Word(t Term, w []api.Name) bool {
	if Check(t) != api.OK {
		return false
	}
	if t.Kind == All {
		_, ok := t.anyOrder(w)
		return ok
	}
	length := words.Length(len(w))
	m := meaning[words.Part]{placesOf(w).leaf, words.Row, words.Choice, length.Times}
	return length.Is(m.of(&t))
}

// places are those just behind which each name stands, and each space's names.
type places struct {
	names  map[api.Name]nums.Set
	spaces map[string]nums.Set
}

func placesOf(w []api.Name) places {
	p := places{map[api.Name]nums.Set{}, map[string]nums.Set{}}
	for i, n := range w {
		put(p.names, n, i)
		put(p.spaces, n.Space, i)
	}
	return p
}

// put puts a place into the set that m has for a key.
func put[K comparable](m map[K]nums.Set, key K, place int) {
	at := m[key]
	at.Add(place)
	m[key] = at
}

// leaf answers the words of one name that a leaf hits.
func (p places) leaf(leaf *Term) words.Part {
	if leaf.Kind == Elem {
		return words.Symbol(p.names[leaf.Name])
	}
	var at nums.Set
	for space, l := range p.spaces {
		if Hits(*leaf, api.Name{Space: space}) {
			at.Merge(l)
		}
	}
	return words.Symbol(at)
}

// anyOrder answers whether w is a word of an All, and the kids' numbers that its
// names hit.
func (t *Term) anyOrder(w []api.Name) ([]int, bool) {
	if t.Min == 0 && len(w) == 0 {
		return nil, true
	}
	may := map[api.Name]int{}
	must := 0
	for i := range t.Kids {
		if t.Kids[i].Max == 1 {
			may[t.Kids[i].Name] = i
		}
		must += t.Kids[i].Min
	}
	var row []int
	for _, n := range w {
		i, known := may[n]
		if !known {
			return nil, false
		}
		// A name that was met may stand no more.
		delete(may, n)
		must -= t.Kids[i].Min
		row = append(row, i)
	}
	return row, must == 0
}
