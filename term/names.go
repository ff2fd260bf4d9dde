package term

import (
	"cmp"
	"slices"
	"strings"

	"rubric/api"
)

// other is the sign that what nothing else is called is called by.
const other = "?"

// Names answers names that stand for all there are: whatever a name is, just the
// leaves that hit it hit one of these.
func Names(l ...Term) []api.Name {
	var out []api.Name
	var locals []string
	spaces := []string{""}
	for _, t := range l {
		for _, leaf := range Leaves(t) {
			if leaf.Kind == Elem {
				out = append(out, leaf.Name)
				locals = append(locals, leaf.Name.Local)
				spaces = append(spaces, leaf.Name.Space)
			} else {
				spaces = append(append(spaces, leaf.W.Spaces...), leaf.W.Not)
			}
		}
	}
	local := unlike(locals)
	for _, space := range append(spaces, unlike(spaces)) {
		out = append(out, api.Name{Space: space, Local: local})
	}
	slices.SortFunc(out, byName)
	return slices.Compact(out)
}

func byName(a, b api.Name) int {
	return cmp.Or(strings.Compare(a.Space, b.Space), strings.Compare(a.Local, b.Local))
}

// unlike answers as many signs as make a text that is none of l, one at least.
func unlike(l []string) string {
	taken := map[int]int{}
	for _, text := range l {
		if strings.Trim(text, other) == "" {
			taken[len(text)]++
		}
	}
	signs := 1
	for taken[signs] > 0 {
		signs++
	}
	return strings.Repeat(other, signs)
}
