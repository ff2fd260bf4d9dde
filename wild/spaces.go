package wild

import "slices"

// spaces is a set of spaces: those of list, or all others. list rises, and has each
// once. What a wildcard allows is such a set; so is what two of them both have, and
// what one of them has, though there need be no wildcard that allows just that.
type spaces struct {
	others bool
	list   []string
}

// rising answers the texts of list in their order, each once; it changes list.
func rising(list []string) []string {
	slices.Sort(list)
	return slices.Compact(list)
}

// allowed answers the set that w allows.
func allowed(w Wild) spaces {
	switch {
	case w.How == Every:
		return spaces{others: true}
	case w.How == Other && w.Not == "":
		return spaces{others: true, list: []string{""}}
	case w.How == Other:
		return spaces{others: true, list: []string{"", w.Not}}
	case w.How == These:
		return spaces{list: w.Spaces}
	}
	return spaces{}
}

// said answers the wildcard that allows just s, if there is one. It keeps s's list.
func said(s spaces, process int) (Wild, bool) {
	n := len(s.list)
	switch {
	case !s.others:
		return Wild{How: These, Spaces: s.list, Process: process}, true
	case n == 0:
		return Wild{How: Every, Process: process}, true
	case n <= 2 && s.list[0] == "":
		return Wild{How: Other, Not: s.list[n-1], Process: process}, true
	}
	return Wild{}, false
}

func (s spaces) has(space string) bool {
	_, listed := slices.BinarySearch(s.list, space)
	return listed != s.others
}

func (s spaces) empty() bool { return !s.others && len(s.list) == 0 }

// not answers the set of all spaces that s does not have, with the same list.
func not(s spaces) spaces { return spaces{others: !s.others, list: s.list} }

// both answers the set of what a and b both have, with a list of its own.
func both(a, b spaces) spaces {
	switch {
	case !a.others:
		return spaces{list: chosen(a.list, b)}
	case !b.others:
		return spaces{list: chosen(b.list, a)}
	}
	return spaces{others: true, list: rising(slices.Concat(a.list, b.list))}
}

// chosen answers those of list that s has.
func chosen(list []string, s spaces) []string {
	var out []string
	for _, space := range list {
		if s.has(space) {
			out = append(out, space)
		}
	}
	return out
}
