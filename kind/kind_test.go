package kind_test

import (
	"math"
	"strings"
	"testing"

	"rubric/api"
	"rubric/char"
	"rubric/kind"
)

// inOrder is each kind's number with its name, as the chapter lists them.
var inOrder = []struct {
	k    int
	name string
}{
	{kind.String, "string"}, {kind.NormalizedString, "normalizedString"}, {kind.Token, "token"}, {kind.NMToken, "NMTOKEN"},
	{kind.NameKind, "Name"}, {kind.NCName, "NCName"}, {kind.ID, "ID"}, {kind.IDRef, "IDREF"},
	{kind.Boolean, "boolean"},
	{kind.Decimal, "decimal"}, {kind.Integer, "integer"},
	{kind.NonPositive, "nonPositiveInteger"}, {kind.Negative, "negativeInteger"}, {kind.NonNegative, "nonNegativeInteger"}, {kind.Positive, "positiveInteger"},
	{kind.Long, "long"}, {kind.Int, "int"}, {kind.Short, "short"}, {kind.Byte, "byte"},
	{kind.UnsignedLong, "unsignedLong"}, {kind.UnsignedInt, "unsignedInt"}, {kind.UnsignedShort, "unsignedShort"}, {kind.UnsignedByte, "unsignedByte"},
	{kind.DateTime, "dateTime"}, {kind.Date, "date"}, {kind.Time, "time"}, {kind.YearMonth, "gYearMonth"}, {kind.Year, "gYear"},
	{kind.MonthDay, "gMonthDay"}, {kind.Day, "gDay"}, {kind.Month, "gMonth"},
	{kind.Duration, "duration"},
}

// chains are the bases, as the chapter writes them.
const chains = `string > normalizedString > token > NMTOKEN
token > Name > NCName > ID
NCName > IDREF
decimal > integer > nonPositiveInteger > negativeInteger
integer > nonNegativeInteger > positiveInteger
integer > long > int > short > byte
nonNegativeInteger > unsignedLong > unsignedInt > unsignedShort > unsignedByte`

// bases is each name's base, by the chains.
func bases() map[string]string {
	out := map[string]string{}
	for _, chain := range strings.Split(chains, "\n") {
		l := strings.Split(chain, " > ")
		for i := 1; i < len(l); i++ {
			out[l[i]] = l[i-1]
		}
	}
	return out
}

// oddNames are XML Schema's other simple types.
var oddNames = []string{"float", "double", "hexBinary", "base64Binary", "anyURI", "QName", "NOTATION", "language", "NMTOKENS", "IDREFS", "ENTITY", "ENTITIES"}

// noKinds are numbers that are none.
var noKinds = []int{0, -1, 33, 34, 64, 256, 257, 1 << 32, 1<<32 + 1, math.MinInt, math.MinInt + 1, math.MaxInt}

func TestP1101NumbersAndNames(t *testing.T) {
	for i, c := range inOrder {
		if c.k != i+1 {
			t.Errorf("%s: %d", c.name, c.k)
		}
		if got := kind.Name(c.k); got != c.name {
			t.Errorf("Name(%d): %q", c.k, got)
		}
		if k, err := kind.Find(c.name); k != c.k || err != api.OK {
			t.Errorf("Find(%q): %d, %v", c.name, k, err)
		}
	}
	if len(inOrder) != kind.Duration {
		t.Errorf("%d names", len(inOrder))
	}
}

func TestP1101FindOdd(t *testing.T) {
	for _, s := range oddNames {
		if k, err := kind.Find(s); k != 0 || err != api.ErrOdd {
			t.Errorf("Find(%q): %d, %v", s, k, err)
		}
	}
}

// TestP1101FindNone: what is near to a name, and XML Schema's types that are no
// simple ones.
func TestP1101FindNone(t *testing.T) {
	list := []string{"", " ", "anyType", "anySimpleType", "anyAtomicType", "nmtoken", "NMToken", "name", "Idref", "IDRef", "NonPositive", "nonPositive", "negative", "unsigned", "yearMonth", "year", "gTime", "gDate", "datetime", "DateTime", "1", "32", "\x00", "\xff", "étoile", strings.Repeat("int", 1000)}
	names := map[string]int{}
	near := func(s string) {
		names[s] = 1
		list = append(list, s+" ", " "+s, s+"\x00", s+"\n", "xs:"+s, s+"x", "x"+s, s[1:], s[:len(s)-1], strings.ToUpper(s), strings.ToLower(s), strings.ToUpper(s[:1])+s[1:], s+s)
	}
	for _, c := range inOrder {
		near(c.name)
	}
	for _, s := range oddNames {
		near(s)
	}
	for _, s := range list {
		// QName without its first letter is a name too.
		if names[s] == 1 {
			continue
		}
		if k, err := kind.Find(s); k != 0 || err != api.ErrNone {
			t.Errorf("Find(%q): %d, %v", s, k, err)
		}
	}
}

func TestP1101Bases(t *testing.T) {
	base := bases()
	for _, c := range inOrder {
		want, _ := kind.Find(base[c.name])
		if got := kind.Base(c.k); got != want {
			t.Errorf("Base(%s): %s", c.name, kind.Name(got))
		}
		top := c.name
		for base[top] != "" {
			top = base[top]
		}
		if got := kind.Prim(c.k); kind.Name(got) != top {
			t.Errorf("Prim(%s): %s", c.name, kind.Name(got))
		}
	}
}

// TestP1101Derived: of each pair, by the chains.
func TestP1101Derived(t *testing.T) {
	base := bases()
	count := 0
	for _, a := range inOrder {
		above := map[string]int{}
		for name := a.name; name != ""; name = base[name] {
			above[name] = 1
		}
		for _, b := range inOrder {
			if got := kind.Derived(a.k, b.k); got != (above[b.name] == 1) {
				t.Errorf("Derived(%s, %s): %v", a.name, b.name, got)
			}
			count += above[b.name]
		}
		for _, k := range noKinds {
			if kind.Derived(a.k, k) || kind.Derived(k, a.k) {
				t.Errorf("Derived of %s and %d", a.name, k)
			}
		}
	}
	if count < 80 {
		t.Errorf("only %d pairs", count)
	}
}

func TestP1101White(t *testing.T) {
	for _, c := range inOrder {
		want := char.Collapse
		switch c.name {
		case "string":
			want = char.Preserve
		case "normalizedString":
			want = char.Replace
		}
		if got := kind.White(c.k); got != want {
			t.Errorf("White(%s): %d", c.name, got)
		}
	}
}

func TestP1101NoKind(t *testing.T) {
	for _, k := range noKinds {
		if kind.Name(k) != "" || kind.Base(k) != 0 || kind.Prim(k) != 0 || kind.White(k) != 0 {
			t.Errorf("%d: %q, %d, %d, %d", k, kind.Name(k), kind.Base(k), kind.Prim(k), kind.White(k))
		}
		for _, from := range noKinds {
			if kind.Derived(k, from) {
				t.Errorf("Derived(%d, %d)", k, from)
			}
		}
	}
}
