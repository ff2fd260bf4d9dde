package kind_test

import (
	"bytes"
	"math"
	"reflect"
	"testing"

	"rubric/api"
	"rubric/date"
	"rubric/dec"
	"rubric/kind"
)

// spoil writes over a number's digits and their spare room.
func spoil(d dec.Dec) {
	for i := range d.Digits[:cap(d.Digits)] {
		d.Digits[:cap(d.Digits)][i] = 99
	}
}

// TestP2AnswersAreNew: to write all over a value's digits turns no other value.
func TestP2AnswersAreNew(t *testing.T) {
	for k := kind.Decimal; k <= kind.UnsignedByte; k++ {
		for _, s := range []string{"0", "1", "-1", "127", "-99"} {
			first, err := kind.Parse(k, s)
			again, _ := kind.Parse(k, s)
			spoil(again.Num)
			last, _ := kind.Parse(k, s)
			if err == api.OK && (first.Num.Text() != s || last.Num.Text() != s) {
				t.Errorf("Parse(%s, %q): memory is shared", kind.Name(k), s)
			}
		}
	}
}

// TestP2NothingIsChanged: digits that are handed in, and their spare room, stay.
func TestP2NothingIsChanged(t *testing.T) {
	row := []byte{77, 1, 2, 5, 6, 7, 8}
	before := bytes.Clone(row)
	v := kind.Value{Prim: kind.Decimal, Num: dec.Dec{Neg: true, Digits: row[1:4], Scale: 1}}
	for _, s := range []string{"-12.5", "-12.6", "0", "12.5", "1000"} {
		w := val(t, kind.Decimal, s)
		kind.Cmp(v, w)
		kind.Cmp(w, v)
		if kind.Same(v, w) != (s == "-12.5") || kind.Text(v) != "-12.5" {
			t.Errorf("%q: %q", s, kind.Text(v))
		}
	}
	if !kind.Same(v, v) || !bytes.Equal(row, before) {
		t.Errorf("digits: %v", row)
	}
}

// TestP3SameCallsSameAnswers: nothing is kept from one call to the next.
func TestP3SameCallsSameAnswers(t *testing.T) {
	if !reflect.DeepEqual(allValues(), allValues()) {
		t.Error("other values")
	}
}

// TestP8WhatMayNotBe: values that Parse never tells: every call ends, and changes
// nothing.
func TestP8WhatMayNotBe(t *testing.T) {
	row := []byte{9, 255, 0}
	numbers := []int{math.MinInt, math.MinInt + 1, -1 << 40, -1, 0, 1, 13, 1 << 40, math.MaxInt - 1, math.MaxInt}
	for prim := -1; prim <= kind.Duration+1; prim++ {
		list := []kind.Value{{Prim: prim}}
		for i, n := range numbers {
			m := numbers[len(numbers)-1-i]
			list = append(list, kind.Value{
				Prim: prim, Text: "\xff", Num: dec.Dec{Neg: true, Digits: row[:2], Scale: n},
				When: date.Moment{Kind: i, Year: n, Month: m, Day: n, Sec: m, Nano: n, HasZone: i%2 == 0, Zone: m},
				Span: date.Span{Months: n, Sec: m, Nano: n},
			})
		}
		for _, a := range list {
			kind.Text(a)
			for _, b := range list {
				if kind.Same(a, b) != (kind.Cmp(a, b) == date.Equal) {
					t.Errorf("Same(%+v, %+v)", a, b)
				}
			}
		}
	}
	if !bytes.Equal(row, []byte{9, 255, 0}) {
		t.Errorf("digits: %v", row)
	}
}
