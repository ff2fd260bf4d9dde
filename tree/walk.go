package tree

import (
	"cmp"
	"iter"
	"math"
	"slices"

	"rubric/ns"
)

// all is as many rows, or as deep, as there are.
const all = math.MaxInt

// row is a node with its depth.
type row struct {
	depth int
	node  *Node
}

// rows answers n's nodes, each ahead of its Kids, as they are now: with their
// depths these are the whole tree. There are none, if there would be more than
// most, or if n is no tree: if a kid is nil, or a way leads back. (It keeps its
// own stack, since a tree made by hand may be deeper than Go's can grow.)
func rows(n *Node, most int) []row {
	var l []row
	var above []*Node
	open := map[*Node]struct{}{} // those of above
	for next := []row{{1, n}}; len(next) > 0; {
		r := next[len(next)-1]
		next = next[:len(next)-1]
		for len(above) >= r.depth {
			delete(open, above[len(above)-1])
			above = above[:len(above)-1]
		}
		if _, back := open[r.node]; back || r.node == nil {
			return nil
		}
		l = append(l, r)
		// All that wait will be rows, so that too many are known ahead of them.
		if len(r.node.Kids) > most-len(l)-len(next) {
			return nil
		}
		for _, k := range slices.Backward(r.node.Kids) {
			next = append(next, row{r.depth + 1, k})
		}
		above = append(above, r.node)
		open[r.node] = struct{}{}
	}
	return l
}

// Walk goes over n's nodes, each ahead of its Kids, with their depths, from 1 on.
func Walk(n *Node) iter.Seq2[int, *Node] {
	l := rows(n, all)
	return func(yield func(int, *Node) bool) {
		for _, r := range l {
			if !yield(r.depth, r.node) {
				return
			}
		}
	}
}

// Size answers how many nodes n's tree has.
func Size(n *Node) int {
	size := 0
	for range Walk(n) {
		size++
	}
	return size
}

// Depth answers how many elements stand within one another in n's tree. A text
// has none, whatever its Kids are: so a way counts as far as its first text.
func Depth(n *Node) int {
	deepest, most := 0, all // nothing deeper than most counts, as it is in a text
	for depth, k := range Walk(n) {
		if depth > most {
			continue
		}
		if k.Elem() {
			deepest, most = max(deepest, depth), all
		} else {
			most = depth
		}
	}
	return deepest
}

// Same tells whether a and b are the same tree, wherever it stood in a document
// and whatever was bound there.
func Same(a, b *Node) bool {
	return slices.EqualFunc(rows(a, all), rows(b, all), func(x, y row) bool {
		return x.depth == y.depth && alike(x.node, y.node)
	})
}

// alike tells whether a and b are the same but for their Kids.
func alike(a, b *Node) bool {
	return a.Name == b.Name && a.Text == b.Text && slices.Equal(set(a.Attrs), set(b.Attrs))
}

// set answers the names and values of l, each once, in an order of their own.
func set(l []ns.Attr) []ns.Attr {
	s := slices.Clone(l)
	for i := range s {
		s[i].At = 0
	}
	slices.SortFunc(s, func(a, b ns.Attr) int {
		return cmp.Or(
			cmp.Compare(a.Name.Space, b.Name.Space),
			cmp.Compare(a.Name.Local, b.Name.Local),
			cmp.Compare(a.Value, b.Value))
	})
	return slices.Compact(s)
}
