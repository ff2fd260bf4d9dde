package terms

import (
	"slices"

	"rubric/api"
	"rubric/term"
)

// Dice throw numbers, and terms by them: the same in each run.
type Dice struct {
	last   uint64
	leaves []term.Term
}

// NewDice answers dice that throw terms of some leaves.
func NewDice(seed int, leaves ...term.Term) *Dice {
	return &Dice{uint64(seed), slices.Clone(leaves)}
}

// Throw answers a number from 0 to n, but n.
func (d *Dice) Throw(n int) int {
	d.last = d.last*6364136223846793005 + 1442695040888963407
	return int(d.last >> 33 % uint64(n))
}

// again answers t with another Min and Max, the plain ones more often.
func (d *Dice) again(t term.Term) term.Term {
	b := [][2]int{{1, 1}, {1, 1}, {1, 1}, {1, 1}, {0, 1}, {0, -1}, {1, -1}, {0, 0}, {2, 2}, {0, 2}, {1, 3}, {2, -1}, {3, 4}}
	l := b[d.Throw(len(b))]
	return Times(l[0], l[1], t)
}

// leaf answers a leaf with some number.
func (d *Dice) leaf() term.Term {
	t := d.leaves[d.Throw(len(d.leaves))]
	t.W.Spaces = slices.Clone(t.W.Spaces)
	t.Leaf = d.Throw(5)
	return t
}

// Within answers a term that may stand anywhere, of some depth at the most.
func (d *Dice) Within(depth int) term.Term {
	t := d.leaf()
	switch d.Throw(12) {
	case 0:
		t = Empty()
	case 1, 2, 3, 4, 5, 6, 7, 8, 9:
		if depth > 0 {
			t = Of([]int{term.Seq, term.Choice}[d.Throw(2)])
			for range d.Throw(5) {
				t.Kids = append(t.Kids, d.Within(depth-1))
			}
		}
	}
	return d.again(t)
}

// All answers a term whose kids may stand in any order.
func (d *Dice) All() term.Term {
	t := Times(d.Throw(2), 1, All())
	for _, name := range []string{"a", "b", "u:a", "c", "v:c"} {
		if d.Throw(2) == 0 {
			most := (1 + d.Throw(4)) / 2 % 2
			k := Times(d.Throw(most+1), most, Elem(name))
			k.Leaf = d.Throw(5)
			t.Kids = append(t.Kids, k)
		}
	}
	return t
}

// Top answers a term, now and then an All.
func (d *Dice) Top(depth int) term.Term {
	if d.Throw(6) == 0 {
		return d.All()
	}
	return d.Within(depth)
}

// Rows answers all rows of at most that many of some names, the shorter ones first.
func Rows(most int, l []api.Name) [][]api.Name {
	rows := [][]api.Name{{}}
	for from := 0; len(rows[from]) < most; from++ {
		for _, n := range l {
			rows = append(rows, append(slices.Clone(rows[from]), n))
		}
	}
	return rows
}

// TooMuch answers terms that are wider or deeper than a term may be, or within
// themselves.
func TooMuch() []term.Term {
	twice := Elem("a")
	for range 60 {
		twice = Choice(twice, twice)
	}
	round := make([]term.Term, 2)
	round[0], round[1] = Elem("a"), Times(0, -1, Seq())
	round[1].Kids = round
	odd := make([]term.Term, 1)
	odd[0] = Elem("a")
	odd[0].Kids = odd
	return []term.Term{
		Deep(1<<20, term.Seq, Elem("a")), twice, Seq(round...), Choice(round...), odd[0], Seq(odd...),
		All(round...), All(Elems(200000)...), Seq(All(Elems(200000)...)), Of(term.Empty, round...), Of(77, round...),
	}
}
