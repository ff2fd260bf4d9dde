package facet_test

import (
	"regexp"
	"slices"
	"strings"
	"testing"

	"rubric/api"
	"rubric/char"
	"rubric/date"
	"rubric/facet"
	"rubric/kind"
	"rubric/nfa"
)

// row is a list of facets: each a name, a colon and its text.
func row(l ...string) []facet.Facet {
	var out []facet.Facet
	for _, s := range l {
		name, text, _ := strings.Cut(s, ":")
		n, is := facet.Find(name)
		if !is {
			panic(s)
		}
		out = append(out, facet.Facet{Kind: n, Text: text})
	}
	return out
}

// compiled is the check of facets that must be taken, put by the kind's own White.
func compiled(t *testing.T, k int, list bool, l ...string) *facet.Check {
	t.Helper()
	c, at, err := facet.Compile(k, list, kind.White(k), row(l...))
	if c == nil || at != 0 || err != api.OK {
		t.Fatalf("Compile(%s, %v, %q): %d, %v", kind.Name(k), list, l, at, err)
	}
	return c
}

// checkError asks for that error, or none, with nothing beside it.
func checkError(t *testing.T, k int, list bool, white int, l []facet.Facet, at int, err api.Errno) {
	t.Helper()
	c, gotAt, got := facet.Compile(k, list, white, l)
	if got != err || gotAt != at || (c != nil) != (err == api.OK) {
		t.Errorf("Compile(%s, %v, %d, %.200v): %v, %d, %v; want %d, %v", kind.Name(k), list, white, l, c != nil, gotAt, got, at, err)
	}
}

// errorCase is what Compile has to answer, texts being put by the kind's own White.
type errorCase struct {
	k    int
	list bool
	l    []string
	at   int
	err  api.Errno
}

func checkErrors(t *testing.T, all []errorCase) {
	t.Helper()
	for _, c := range all {
		checkError(t, c.k, c.list, kind.White(c.k), row(c.l...), c.at, c.err)
	}
}

func TestP1202Table(t *testing.T) {
	checkErrors(t, []errorCase{
		{kind.String, false, nil, 0, api.OK}, {kind.Int, true, nil, 0, api.OK},
		{kind.String, false, []string{"minLength:1", "maxLength:1", "pattern:a", "pattern:a", "enumeration:a", "enumeration:a", "whiteSpace:collapse"}, 0, api.OK},
		{kind.Decimal, false, []string{"minInclusive:-1.5", "maxExclusive:1.50", "totalDigits:3", "fractionDigits:3", "enumeration:1", "pattern:.*", "whiteSpace:collapse"}, 0, api.OK},
		{kind.Decimal, false, []string{"maxInclusive: +1. ", "minInclusive:\n1.0\t"}, 0, api.OK},
		{kind.Int, true, []string{"length:0", "enumeration:", "enumeration:1\t 2 ", "pattern:.*", "whiteSpace:collapse"}, 0, api.OK},
		{kind.Boolean, false, []string{"pattern:1", "whiteSpace:collapse"}, 0, api.OK}, {kind.Boolean, true, []string{"enumeration:1 true", "length:2"}, 0, api.OK},
		// What may not be.
		{kind.Boolean, false, []string{"pattern:1", "enumeration:1"}, 1, api.ErrNot}, {kind.ID, false, []string{"minInclusive:a"}, 0, api.ErrNot}, {kind.Date, false, []string{"totalDigits:1"}, 0, api.ErrNot}, {kind.Duration, false, []string{"length:1"}, 0, api.ErrNot}, {kind.Byte, false, []string{"maxLength:1"}, 0, api.ErrNot}, {kind.Byte, true, []string{"totalDigits:1"}, 0, api.ErrNot}, {kind.Byte, true, []string{"maxExclusive:1"}, 0, api.ErrNot},
		// Twice.
		{kind.String, false, []string{"minLength:1", "pattern:a", "minLength:1"}, 2, api.ErrDup}, {kind.Int, false, []string{"minInclusive:1", "minInclusive:2"}, 1, api.ErrDup}, {kind.Int, false, []string{"whiteSpace:collapse", "whiteSpace:collapse"}, 1, api.ErrDup}, {kind.Int, false, []string{"fractionDigits:0", "fractionDigits:0"}, 1, api.ErrDup}, {kind.Int, true, []string{"maxLength:1", "maxLength:1"}, 1, api.ErrDup},
		// Texts.
		{kind.Int, false, []string{"minInclusive:"}, 0, api.ErrForm}, {kind.Int, false, []string{"maxExclusive:1.0"}, 0, api.ErrForm}, {kind.Byte, false, []string{"maxExclusive:128"}, 0, api.ErrForm}, {kind.Byte, false, []string{"minExclusive:-129"}, 0, api.ErrForm}, {kind.Date, false, []string{"maxInclusive:2001-02-29"}, 0, api.ErrForm}, {kind.Day, false, []string{"maxInclusive:---32"}, 0, api.ErrForm}, {kind.Duration, false, []string{"minInclusive:P"}, 0, api.ErrForm}, {kind.Decimal, false, []string{"minInclusive:1 2"}, 0, api.ErrForm}, {kind.Decimal, false, []string{"minInclusive:1" + strings.Repeat("0", api.MaxToken)}, 0, api.ErrForm},
		{kind.NCName, false, []string{"enumeration:a", "enumeration:a:b"}, 1, api.ErrForm}, {kind.NCName, false, []string{"enumeration:a b"}, 0, api.ErrForm}, {kind.NCName, false, []string{"enumeration:"}, 0, api.ErrForm}, {kind.NCName, true, []string{"enumeration:a b", "enumeration:a b:c"}, 1, api.ErrForm}, {kind.UnsignedByte, true, []string{"enumeration:1 2 -1"}, 0, api.ErrForm},
		{kind.String, false, []string{"whiteSpace:"}, 0, api.ErrForm}, {kind.String, false, []string{"whiteSpace:Collapse"}, 0, api.ErrForm}, {kind.String, false, []string{"whiteSpace:replace collapse"}, 0, api.ErrForm}, {kind.Int, true, []string{"whiteSpace:replaced"}, 0, api.ErrForm},
		// Patterns.
		{kind.Int, false, []string{"pattern:1", "pattern:)"}, 1, api.ErrForm}, {kind.Int, false, []string{"pattern:a{2,1}"}, 0, api.ErrForm}, {kind.Int, true, []string{"pattern:\\p{Lt}"}, 0, api.ErrOdd}, {kind.Boolean, false, []string{"pattern:\\p{IsGreek}"}, 0, api.ErrOdd},
		{kind.String, false, []string{"pattern:a{512}"}, 0, api.OK}, {kind.String, false, []string{"pattern:", "pattern:a{513}"}, 1, api.ErrMany}, {kind.String, false, []string{"pattern:(a{32}b?){16}"}, 0, api.ErrMany},
		{kind.String, false, []string{"pattern:" + strings.Repeat("\\.", 512) + strings.Repeat("(){1}", 614) + "()"}, 0, api.OK}, {kind.String, false, []string{"pattern:" + strings.Repeat("(){1}", 819) + "()"}, 0, api.ErrMany}, {kind.String, false, []string{"pattern:" + strings.Repeat("(", 41) + strings.Repeat(")", 41)}, 0, api.ErrMany},
		// One beside another.
		{kind.String, false, []string{"length:1", "minLength:1"}, 1, api.ErrNot}, {kind.String, false, []string{"minLength:0", "pattern:a", "length:1", "enumeration:a"}, 3, api.ErrNot}, {kind.Int, true, []string{"maxLength:1", "length:1"}, 1, api.ErrNot}, {kind.Int, true, []string{"maxLength:1", "minLength:1", "length:1"}, 2, api.ErrNot},
		{kind.String, false, []string{"minLength:10", "maxLength:9"}, 1, api.ErrNot}, {kind.String, false, []string{"maxLength:9", "minLength:10", "enumeration:"}, 2, api.ErrNot}, {kind.String, false, []string{"minLength:09", "maxLength:9"}, 0, api.OK}, {kind.String, false, []string{"minLength:9", "maxLength:10"}, 0, api.OK},
		{kind.Int, false, []string{"maxInclusive:5", "maxExclusive:5"}, 1, api.ErrNot}, {kind.Int, false, []string{"maxExclusive:5", "maxInclusive:4", "pattern:1"}, 2, api.ErrNot}, {kind.Date, false, []string{"minExclusive:2000-01-01", "minInclusive:2000-01-01Z"}, 1, api.ErrNot},
		{kind.Decimal, false, []string{"totalDigits:9", "fractionDigits:10"}, 1, api.ErrNot}, {kind.Decimal, false, []string{"fractionDigits:2", "totalDigits:1", "whiteSpace:collapse"}, 2, api.ErrNot}, {kind.Decimal, false, []string{"fractionDigits:02", "totalDigits:2"}, 0, api.OK}, {kind.Int, false, []string{"fractionDigits:5"}, 0, api.OK},
	})
}

// TestP1202Order: of several errors the first by place; at one place the first of
// the chapter's list; one beside another behind all.
func TestP1202Order(t *testing.T) {
	checkErrors(t, []errorCase{
		{kind.Int, false, []string{"pattern:(", "length:1"}, 0, api.ErrForm}, {kind.Int, false, []string{"length:1", "pattern:("}, 0, api.ErrNot}, {kind.Int, false, []string{"length:x", "length:1"}, 0, api.ErrNot},
		{kind.String, false, []string{"length:1", "length:x"}, 1, api.ErrDup}, {kind.String, false, []string{"length:1", "minLength:1", "length:1", "pattern:\\p{Lt}"}, 2, api.ErrDup}, {kind.String, false, []string{"length:1", "minLength:1", "pattern:\\p{Lt}", "length:1"}, 2, api.ErrOdd},
		{kind.Token, false, []string{"whiteSpace:collapse", "whiteSpace:replace"}, 1, api.ErrDup}, {kind.Token, false, []string{"whiteSpace:collapse", "whiteSpace:x"}, 1, api.ErrDup}, {kind.Token, false, []string{"whiteSpace:replace", "whiteSpace:x"}, 0, api.ErrNot}, {kind.Token, false, []string{"whiteSpace:x", "whiteSpace:replace"}, 0, api.ErrForm},
		{kind.Int, false, []string{"minInclusive:1", "minExclusive:x"}, 1, api.ErrForm}, {kind.Int, false, []string{"minInclusive:9", "maxInclusive:1", "enumeration:x"}, 2, api.ErrForm}, {kind.Int, false, []string{"minInclusive:9", "maxInclusive:1", "enumeration:1"}, 2, api.ErrNot},
		{kind.Int, true, []string{"enumeration:1 x", "minInclusive:1"}, 0, api.ErrForm}, {kind.String, false, []string{"pattern:a{513}", "pattern:("}, 0, api.ErrMany},
	})
}

// TestP1202ErrArg: a kind, or any facet's, that is none goes ahead of all, at 0.
func TestP1202ErrArg(t *testing.T) {
	rows := [][]facet.Facet{nil, row("pattern:a"), row("length:x"), row("pattern:(", "pattern:("), row("length:1", "maxLength:1")}
	for _, l := range rows {
		for _, list := range []bool{false, true} {
			for _, k := range noKinds {
				checkError(t, k, list, char.Collapse, l, 0, api.ErrArg)
			}
			for _, none := range noFacets {
				for at := range len(l) + 1 {
					wrong := slices.Insert(slices.Clone(l), at, facet.Facet{Kind: none, Text: "1"})
					checkError(t, kind.String, list, char.Preserve, wrong, 0, api.ErrArg)
					checkError(t, kind.Boolean, list, char.Collapse, wrong, 0, api.ErrArg)
				}
			}
		}
	}
}

// texts tells each text of at most n of those letters.
func texts(letters []string, n int, tell func(string)) {
	var longer func(s string, n int)
	longer = func(s string, n int) {
		tell(s)
		if n == 0 {
			return
		}
		for _, c := range letters {
			longer(s+c, n-1)
		}
	}
	longer("", n)
}

var numberText = regexp.MustCompile(`^[ \t\r\n]*[0-9]{1,6}[ \t\r\n]*$`)

// TestP1202Numbers: each short text, and longer ones, as a length and as a number of
// digits.
func TestP1202Numbers(t *testing.T) {
	list := []string{"999999", "000000", "000001", "0000001", "1000000", "9999999", " 123456\n", "0 0", "12345\u0660", "1e5", "0x1", "1_0", "18446744073709551617", strings.Repeat("0", 70000), strings.Repeat(" ", 70000) + "1", "\u00a01", "1\x00", "\xff"}
	texts([]string{"0", "1", " ", "\t", "+", "-", ".", "a"}, 4, func(s string) { list = append(list, s) })
	taken := 0
	for _, s := range list {
		want := api.ErrForm
		if numberText.MatchString(s) {
			taken++
			want = api.OK
		}
		for _, n := range []int{facet.Length, facet.MinLength, facet.MaxLength} {
			checkError(t, kind.String, false, char.Preserve, []facet.Facet{{Kind: n, Text: s}}, 0, want)
			checkError(t, kind.Date, true, char.Collapse, []facet.Facet{{Kind: n, Text: s}}, 0, want)
		}
		checkError(t, kind.Decimal, false, char.Collapse, []facet.Facet{{Kind: facet.Fraction, Text: s}}, 0, want)
		if strings.Trim(s, "0 \t\r\n") == "" {
			want = api.ErrForm
		}
		checkError(t, kind.Decimal, false, char.Collapse, []facet.Facet{{Kind: facet.Total, Text: s}}, 0, want)
	}
	if taken < 50 {
		t.Errorf("only %d are taken", taken)
	}
}

// TestP1202White: each way that is written, behind each way ahead of it.
func TestP1202White(t *testing.T) {
	for own, text := range []string{char.Preserve: "preserve", char.Replace: " \nreplace ", char.Collapse: "collapse\t"} {
		if text == "" {
			continue
		}
		l := []facet.Facet{{Kind: facet.White, Text: text}}
		for white := char.Preserve; white <= char.Collapse; white++ {
			want := api.OK
			if own < white {
				want = api.ErrNot
			}
			checkError(t, kind.String, false, white, l, 0, want)
			if own < char.Collapse {
				want = api.ErrNot
			}
			checkError(t, kind.String, true, white, l, 0, want)
		}
		// What is no way leaves a text as it is: no way puts less.
		for _, white := range []int{0, -1, 4, 1 << 40} {
			checkError(t, kind.String, false, white, l, 0, api.OK)
		}
	}
}

// TestP1202AsItIs: texts of patterns and enumerations are not put.
func TestP1202AsItIs(t *testing.T) {
	c := compiled(t, kind.String, false, "pattern: a ", "pattern:\t")
	for s, want := range map[string]bool{" a ": true, "a": false, "\t": true, "": false, " ": false} {
		if c.Holds(s, values(t, kind.String, s)) != want {
			t.Errorf("pattern: %q", s)
		}
	}
	c = compiled(t, kind.String, false, "enumeration: a\n", "enumeration:  ")
	for s, want := range map[string]bool{" a\n": true, "a": false, " a ": false, "  ": true, " ": false, "": false} {
		if c.Holds(s, values(t, kind.String, s)) != want {
			t.Errorf("enumeration: %q", s)
		}
	}
	// Its kind puts it all the same.
	c = compiled(t, kind.Token, false, "enumeration: a\n b ")
	if !c.Holds("a b", values(t, kind.Token, "a b")) {
		t.Error("enumeration of token")
	}
}

// TestP1202Bounds: each two bounds, least and greatest, with each order.
func TestP1202Bounds(t *testing.T) {
	for _, c := range []struct {
		k      int
		lo, hi string
		order  int
	}{
		{kind.Int, "1", "2", date.Less}, {kind.Int, "1", "+01", date.Equal}, {kind.Int, "10", "9", date.Greater}, {kind.Decimal, "1.50", "1.5", date.Equal}, {kind.Decimal, "-1.5", "-1.6", date.Greater}, {kind.UnsignedLong, "18446744073709551614", "18446744073709551615", date.Less},
		{kind.Date, "2000-01-01", "2000-01-02", date.Less}, {kind.Date, "2000-01-01", "2000-01-01Z", date.Unknown}, {kind.Date, "2000-01-01Z", "2000-01-01-00:00", date.Equal}, {kind.Date, "2000-01-03", "2000-01-01Z", date.Greater}, {kind.Time, "00:00:00Z", "01:00:00+01:00", date.Equal}, {kind.Year, "-0001", "0001", date.Less},
		{kind.Duration, "P1Y", "P12M", date.Equal}, {kind.Duration, "P1M", "P30D", date.Unknown}, {kind.Duration, "P1M", "P27D", date.Greater}, {kind.Duration, "-P1M", "P0M", date.Less},
	} {
		for _, lo := range []string{"minInclusive", "minExclusive"} {
			for _, hi := range []string{"maxInclusive", "maxExclusive"} {
				l := row(lo+":"+c.lo, hi+":"+c.hi, "pattern:a")
				at, want := 0, api.OK
				if c.order == date.Greater || c.order == date.Equal && lo+hi != "minInclusivemaxInclusive" {
					at, want = 2, api.ErrNot
				}
				checkError(t, c.k, false, char.Collapse, l, at, want)
				slices.Reverse(l)
				checkError(t, c.k, false, char.Collapse, l, at, want)
			}
		}
	}
}

// some are facets of all sorts, right and wrong ones.
func some() []string {
	return []string{"length:1", "minLength:2", "maxLength:1", "maxLength:x", "pattern:a", "pattern:(", "pattern:\\p{Lt}", "enumeration:1", "enumeration:1 2", "whiteSpace:collapse", "whiteSpace:replace", "whiteSpace:x", "minInclusive:1", "minExclusive:1", "minExclusive:2", "maxInclusive:1", "maxExclusive:2", "maxExclusive:x", "totalDigits:1", "totalDigits:0", "fractionDigits:2"}
}

// errorAt is what the chapter's first list says of the facet at a place; OK, if that
// list says nothing.
func errorAt(k int, list bool, white int, l []facet.Facet, at int) api.Errno {
	f := l[at]
	name := inOrder[f.Kind-1].name
	may := mayHave()[kind.Name(kind.Prim(k))]
	if list {
		may = ofTexts
	}
	twice := slices.ContainsFunc(l[:at], func(g facet.Facet) bool { return g.Kind == f.Kind })
	put := strings.Join(strings.Fields(f.Text), " ")
	parts := []string{f.Text}
	if list {
		parts = strings.Fields(f.Text)
	}
	switch {
	case !strings.Contains(may, " "+name+" "):
		return api.ErrNot
	case twice && name != "pattern" && name != "enumeration":
		return api.ErrDup
	case name == "pattern":
		_, _, err := nfa.Compile(f.Text, api.MaxPos)
		return err
	case name == "whiteSpace" && !strings.Contains(" preserve replace collapse ", " "+put+" "):
		return api.ErrForm
	case name == "whiteSpace":
		ways := map[string]int{"preserve": char.Preserve, "replace": char.Replace, "collapse": char.Collapse}
		if ways[put] < white || list && put != "collapse" {
			return api.ErrNot
		}
	case name == "enumeration":
		for _, s := range parts {
			if _, err := kind.Parse(k, s); err != api.OK {
				return api.ErrForm
			}
		}
	case strings.Contains(bounds, " "+name+" "):
		if _, err := kind.Parse(k, put); err != api.OK {
			return api.ErrForm
		}
	case !numberText.MatchString(f.Text), name == "totalDigits" && strings.Trim(put, "0") == "":
		return api.ErrForm
	}
	return api.OK
}

// fitting is what the chapter's second list says of facets of whole numbers.
func fitting(l []facet.Facet) bool {
	of := func(name string) *facet.Facet {
		i := slices.IndexFunc(l, func(f facet.Facet) bool { return inOrder[f.Kind-1].name == name })
		if i < 0 {
			return nil
		}
		return &l[i]
	}
	above := func(lower, upper string, least int) bool {
		a, b := of(lower), of(upper)
		return a != nil && b != nil && kind.Cmp(whole(a.Text), whole(b.Text)) >= least
	}
	switch {
	case of("length") != nil && (of("minLength") != nil || of("maxLength") != nil),
		of("maxInclusive") != nil && of("maxExclusive") != nil, of("minInclusive") != nil && of("minExclusive") != nil,
		above("minLength", "maxLength", date.Greater), above("fractionDigits", "totalDigits", date.Greater),
		above("minInclusive", "maxInclusive", date.Greater), above("minInclusive", "maxExclusive", date.Equal),
		above("minExclusive", "maxInclusive", date.Equal), above("minExclusive", "maxExclusive", date.Equal):
		return false
	}
	return true
}

func whole(s string) kind.Value {
	v, err := kind.Parse(kind.Integer, s)
	if err != api.OK {
		panic(s)
	}
	return v
}

// TestP1202All: every row of at most three of some facets, of several kinds, by the
// two lists said again.
func TestP1202All(t *testing.T) {
	counts := map[api.Errno]int{}
	for _, k := range []int{kind.String, kind.NMToken, kind.Boolean, kind.Int, kind.Decimal} {
		for _, list := range []bool{false, true} {
			rowsOf(some(), 3, func(names []string) {
				l := row(names...)
				wantAt, want := 0, api.OK
				for at := range l {
					if want == api.OK {
						wantAt, want = at, errorAt(k, list, kind.White(k), l, at)
					}
				}
				if want == api.OK {
					wantAt = 0
					if !fitting(l) {
						wantAt, want = len(l)-1, api.ErrNot
					}
				}
				counts[want]++
				checkError(t, k, list, kind.White(k), l, wantAt, want)
			})
		}
	}
	for _, err := range []api.Errno{api.OK, api.ErrNot, api.ErrDup, api.ErrForm, api.ErrOdd} {
		if counts[err] < 500 {
			t.Errorf("only %d are %v", counts[err], err)
		}
	}
}

// rowsOf tells each row of at most n of those.
func rowsOf(all []string, n int, tell func([]string)) {
	var longer func(l []string, n int)
	longer = func(l []string, n int) {
		tell(l)
		if n == 0 {
			return
		}
		for _, s := range all {
			longer(append(slices.Clone(l), s), n-1)
		}
	}
	longer(nil, n)
}
