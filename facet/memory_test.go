package facet_test

import (
	"math"
	"reflect"
	"slices"
	"strings"
	"sync"
	"testing"

	"rubric/api"
	"rubric/char"
	"rubric/date"
	"rubric/dec"
	"rubric/facet"
	"rubric/kind"
)

// spoil writes over a value's digits and their spare room.
func spoil(v kind.Value) {
	d := v.Num.Digits[:cap(v.Num.Digits)]
	for i := range d {
		d[i] = 99
	}
}

// TestP2BoundsAreNew: to write all over the digits of a bound turns neither a later
// answer nor the check.
func TestP2BoundsAreNew(t *testing.T) {
	c := compiled(t, kind.Decimal, false, "minInclusive:-12.5", "maxExclusive:12.5")
	for range 3 {
		lo, hi, _, _ := c.Bounds()
		if kind.Text(lo) != "-12.5" || kind.Text(hi) != "12.5" {
			t.Fatalf("%+v, %+v", lo, hi)
		}
		spoil(lo)
		if kind.Text(hi) != "12.5" {
			t.Error("bounds share their digits")
		}
		spoil(hi)
		for s, want := range map[string]bool{"-12.5": true, "-12.6": false, "12.4": true, "12.5": false} {
			if c.Holds(s, values(t, kind.Decimal, s)) != want {
				t.Errorf("%q", s)
			}
		}
	}
}

// TestP2NothingIsKept: facets, values and their spare room stay as they were; what is
// written there later turns nothing.
func TestP2NothingIsKept(t *testing.T) {
	l := row("length:1", "minInclusive:1", "maxInclusive:5", "totalDigits:1", "enumeration:1", "enumeration:5", "pattern:.", "whiteSpace:collapse", "length:7")
	before := slices.Clone(l)
	c, _, err := facet.Compile(kind.Int, false, char.Collapse, l[1:8])
	if err != api.OK || !slices.Equal(l, before) {
		t.Fatalf("%v: %v", err, l)
	}
	for i := range l {
		l[i] = facet.Facet{Kind: facet.Pattern, Text: "x"}
	}
	v := values(t, kind.Int, "9", "5", "1", "2")
	row := []byte{77, 5, 6}
	v[1].Num.Digits = row[1:2]
	want := slices.Clone(v)
	if !c.Holds("5", v[1:2]) || c.Holds("2", v[3:]) || !c.Holds("1", v[2:3]) || c.Holds("5", v[1:3]) {
		t.Error("Holds")
	}
	if !reflect.DeepEqual(v, want) || !slices.Equal(row, []byte{77, 5, 6}) {
		t.Errorf("values: %+v, %v", v, row)
	}
	spoil(v[2])
	if !c.Holds("1", values(t, kind.Int, "1")) || c.White() != char.Collapse {
		t.Error("Holds hangs on what it was handed")
	}
}

// TestP2NoListIsAnEmptyOne: a list handed in may be nil or empty.
func TestP2NoListIsAnEmptyOne(t *testing.T) {
	for _, list := range []bool{false, true} {
		for _, l := range [][]facet.Facet{nil, {}} {
			c, at, err := facet.Compile(kind.Int, list, char.Collapse, l)
			if c == nil || at != 0 || err != api.OK || !c.Holds("", nil) || !c.Holds("", []kind.Value{}) || c.White() != char.Collapse {
				t.Errorf("%v: %v", list, err)
			}
		}
	}
	c := compiled(t, kind.Int, true, "enumeration:", "maxLength:0")
	if !c.Holds("", nil) || !c.Holds("", []kind.Value{}) {
		t.Error("an empty row")
	}
}

// TestP3SameAnswers: what a check was asked ahead turns nothing, nor what others are
// asked, not even at once; each is one's own.
func TestP3SameAnswers(t *testing.T) {
	facets := []string{"minInclusive:2", "maxExclusive:50", "totalDigits:2", "pattern:[0-9]", "pattern:[1-4]+", "enumeration:3", "enumeration:33", "enumeration:9"}
	one, two := compiled(t, kind.Int, false, facets...), compiled(t, kind.Int, false, facets...)
	if one == two {
		t.Fatal("one check for two")
	}
	var crew sync.WaitGroup
	for _, c := range []*facet.Check{one, two, one, two} {
		crew.Go(func() {
			for _, s := range []string{"3", "33", "9", "1", "55", "333", "x", "3"} {
				v, _ := kind.Parse(kind.Int, s)
				if c.Holds(s, []kind.Value{v}) != strings.Contains(" 3 33 9 ", " "+s+" ") {
					t.Errorf("%q", s)
				}
				lo, hi, _, _ := c.Bounds()
				if kind.Text(lo) != "2" || kind.Text(hi) != "50" {
					t.Error("Bounds")
				}
				spoil(lo)
			}
		})
	}
	crew.Wait()
}

// TestP1ManyFacets: no row is too long.
func TestP1ManyFacets(t *testing.T) {
	var l []facet.Facet
	for _, c := range "abcdefghij" {
		for n := range 1000 {
			l = append(l, facet.Facet{Kind: facet.Enum, Text: strings.Repeat(string(c), n%100)}, facet.Facet{Kind: facet.Pattern, Text: string(c) + "*"})
		}
	}
	c, _, err := facet.Compile(kind.String, false, char.Preserve, l)
	if err != api.OK {
		t.Fatal(err)
	}
	for s, want := range map[string]bool{"": true, "j": true, strings.Repeat("j", 99): true, strings.Repeat("j", 100): false, "aj": false, "k": false} {
		if c.Holds(s, values(t, kind.String, s)) != want {
			t.Errorf("%q", s)
		}
	}
	checkError(t, kind.String, false, char.Preserve, append(l, facet.Facet{Kind: facet.Pattern, Text: "("}), len(l), api.ErrForm)
}

// TestP1HardPatterns: patterns of as many positions as there may be, on long texts.
func TestP1HardPatterns(t *testing.T) {
	c := compiled(t, kind.String, false, "pattern:(a?){511}b", "pattern:((a|b){1,3}){85}c", "pattern:(.*a){255}.*", "pattern:(a|b)*")
	text := strings.Repeat("ab", api.MaxText/2)
	if !c.Holds(text, values(t, kind.String, text)) || c.Holds(text[:99]+"d", values(t, kind.String, "")) {
		t.Error("Holds")
	}
}

// TestP8WhatMayNotBe: values that no text tells: every call ends, and changes
// nothing.
func TestP8WhatMayNotBe(t *testing.T) {
	row := []byte{9, 255, 0}
	var all []kind.Value
	for prim := -1; prim <= kind.Duration+1; prim++ {
		for _, n := range []int{math.MinInt, -1, 0, 13, math.MaxInt} {
			all = append(all, kind.Value{
				Prim: prim, Text: "\xff", Num: dec.Dec{Neg: true, Digits: row[:2], Scale: n},
				When: date.Moment{Kind: date.Date, Year: n, Month: -n, Day: n, Sec: n, Nano: n, HasZone: n > 0, Zone: n},
				Span: date.Span{Months: n, Sec: -n, Nano: n},
			}, kind.Value{Prim: prim})
		}
	}
	for _, c := range []*facet.Check{
		new(facet.Check), compiled(t, kind.Decimal, false, "minInclusive:1", "maxExclusive:5", "totalDigits:1", "fractionDigits:1", "enumeration:3", "pattern:.*"), compiled(t, kind.Date, false, "minExclusive:2000-01-01", "maxInclusive:2000-02-01Z", "enumeration:2000-01-03"),
		compiled(t, kind.Duration, false, "minExclusive:P1M", "enumeration:P1Y"), compiled(t, kind.String, false, "length:1", "enumeration:a"), compiled(t, kind.Time, true, "minLength:1", "enumeration:00:00:00"),
	} {
		for i := range all {
			c.Holds("\xff", all[i:i+1])
		}
		c.Holds("", all)
		c.Bounds()
		c.White()
	}
	if !slices.Equal(row, []byte{9, 255, 0}) {
		t.Errorf("digits: %v", row)
	}
}
