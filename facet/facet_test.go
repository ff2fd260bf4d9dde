package facet_test

import (
	"math"
	"strings"
	"testing"

	"rubric/facet"
	"rubric/kind"
)

// inOrder is each facet's number with its name, as the chapter lists them.
var inOrder = []struct {
	facet int
	name  string
}{
	{facet.Length, "length"}, {facet.MinLength, "minLength"}, {facet.MaxLength, "maxLength"},
	{facet.Pattern, "pattern"}, {facet.Enum, "enumeration"}, {facet.White, "whiteSpace"},
	{facet.MaxIn, "maxInclusive"}, {facet.MaxEx, "maxExclusive"}, {facet.MinIn, "minInclusive"}, {facet.MinEx, "minExclusive"},
	{facet.Total, "totalDigits"}, {facet.Fraction, "fractionDigits"},
}

// noFacets are numbers that are none, noKinds such as are no kinds.
var (
	noFacets = []int{0, -1, 13, 14, 24, 256, 257, 1 << 32, 1<<32 + 1, math.MinInt, math.MinInt + 1, math.MaxInt}
	noKinds  = []int{0, -1, 33, 34, 64, 256, 257, 1 << 32, 1<<32 + 1, math.MinInt, math.MinInt + 1, math.MaxInt}
)

// The facets of the chapter's groups.
const (
	lengths = " length minLength maxLength "
	bounds  = " maxInclusive maxExclusive minInclusive minExclusive "
	digits  = " totalDigits fractionDigits "
	ofTexts = lengths + " pattern enumeration whiteSpace "
	ofTimes = bounds + " pattern enumeration whiteSpace "
)

// mayHave is the chapter's table: of each Prim's name, its facets.
func mayHave() map[string]string {
	return map[string]string{
		"string": ofTexts, "boolean": " pattern whiteSpace ", "decimal": ofTimes + digits,
		"dateTime": ofTimes, "date": ofTimes, "time": ofTimes, "gYearMonth": ofTimes, "gYear": ofTimes,
		"gMonthDay": ofTimes, "gDay": ofTimes, "gMonth": ofTimes, "duration": ofTimes,
	}
}

func TestP1201NumbersAndNames(t *testing.T) {
	for i, c := range inOrder {
		if c.facet != i+1 {
			t.Errorf("%s: %d", c.name, c.facet)
		}
		if got, is := facet.Find(c.name); got != c.facet || !is {
			t.Errorf("Find(%q): %d, %v", c.name, got, is)
		}
	}
	if len(inOrder) != facet.Fraction {
		t.Errorf("%d names", len(inOrder))
	}
}

// TestP1201FindNone: what is near to a name, and other things of schemas.
func TestP1201FindNone(t *testing.T) {
	list := []string{"", " ", "enum", "white", "whitespace", "minlength", "min", "max", "inclusive", "minIn", "maxEx", "total", "fraction", "digits", "scale", "precision", "encoding", "explicitTimezone", "assertion", "annotation", "simpleType", "1", "12", "\x00", "\xff", "é", strings.Repeat("length", 1000)}
	names := map[string]int{}
	for _, c := range inOrder {
		s := c.name
		names[s] = 1
		list = append(list, s+" ", " "+s, s+"\x00", s+"\n", "xs:"+s, s+"x", "x"+s, s[1:], s[:len(s)-1], strings.ToUpper(s), strings.ToLower(s), strings.ToUpper(s[:1])+s[1:], s+s)
	}
	for _, s := range list {
		// Some names have no great letter.
		if names[s] == 1 {
			continue
		}
		if got, is := facet.Find(s); got != 0 || is {
			t.Errorf("Find(%q): %d, %v", s, got, is)
		}
	}
}

// TestP1201May: each number that may be a kind, with each facet, by the table: only
// of a Prim may there be any.
func TestP1201May(t *testing.T) {
	table := mayHave()
	prims := append([]int{}, noKinds...)
	for k := 1; k <= kind.Duration; k++ {
		prims = append(prims, k)
	}
	count := 0
	for _, prim := range prims {
		// What is no Prim has a name that the table does not have, or none.
		may := table[kind.Name(prim)]
		for _, c := range inOrder {
			want := strings.Contains(may, " "+c.name+" ")
			if got := facet.May(prim, c.facet, false); got != want {
				t.Errorf("May(%d, %s, false): %v", prim, c.name, got)
			} else if got {
				count++
			}
			want = strings.Contains(ofTexts, " "+c.name+" ")
			if got := facet.May(prim, c.facet, true); got != want {
				t.Errorf("May(%d, %s, true): %v", prim, c.name, got)
			}
		}
		for _, none := range noFacets {
			if facet.May(prim, none, false) || facet.May(prim, none, true) {
				t.Errorf("May(%d, %d)", prim, none)
			}
		}
	}
	if count != 6+2+9+9*7 {
		t.Errorf("%d may be", count)
	}
}
