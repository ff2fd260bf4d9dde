package pat

// waits is the number of a node whose kids' are not worked out yet.
const waits = -1

// fold works out a number of each node from those of its kids, and answers
// root's. Trees made by hand may be deeper than Go's stack can grow, and one list
// may stand in many of their places: so it keeps a stack of its own, and works out
// each node once. (What stands in itself is no tree: there it counts 0.)
func fold(root *Node, work func(n *Node, kids []int) int) int {
	known := map[*Node]int{}
	var numbers []int // of one node's kids
	for open := []*Node{root}; len(open) > 0; {
		n := open[len(open)-1]
		number, met := known[n]
		if !met {
			known[n] = waits
			open = append(open, n.kids()...)
			continue
		}
		open = open[:len(open)-1]
		if number == waits {
			numbers = numbers[:0]
			for _, k := range n.kids() {
				numbers = append(numbers, max(known[k], 0))
			}
			known[n] = work(n, numbers)
		}
	}
	return known[root]
}

// kids answers the Kids of those kinds that have some.
func (n *Node) kids() []*Node {
	switch n.Kind {
	case Seq, Alt, Rep:
		l := make([]*Node, len(n.Kids))
		for i := range l {
			l[i] = &n.Kids[i]
		}
		return l
	}
	return nil
}
