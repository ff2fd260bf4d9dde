package dec_test

import (
	"bytes"
	"math"
	"testing"

	"rubric/api"
	"rubric/dec"
)

// roomy is a number whose digits have spare room, and a look whether all of it
// is as it was.
func roomy(t *testing.T, s string) (dec.Dec, func() bool) {
	d := num(t, s)
	n := len(d.Digits)
	room := append(append([]byte{77}, d.Digits...), 1, 2, 3, 4)
	before := bytes.Clone(room)
	d.Digits = room[1 : n+1]
	return d, func() bool { return bytes.Equal(room, before) && len(d.Digits) == n }
}

// spoil writes over a number's digits and their spare room.
func spoil(d dec.Dec) {
	for i := range d.Digits[:cap(d.Digits)] {
		d.Digits[:cap(d.Digits)][i] = 99
	}
}

// TestP2NothingIsChangedOrShared: to write all over an answer turns neither what
// was handed in nor what the same call answers next.
func TestP2NothingIsChangedOrShared(t *testing.T) {
	list := []string{"0", "1", "-1", "10", "9.99", "-0.01", "0.5", "999", "-1000"}
	for _, s := range list {
		a, right := roomy(t, s)
		_, _, _, _, _ = a.Right(), a.Text(), a.Total(), a.Fraction(), a.Whole()
		want := dec.Neg(num(t, s))
		spoil(dec.Neg(a))
		if !right() || !same(dec.Neg(a), want) {
			t.Errorf("Neg(%s): memory is shared", s)
		}
		first := num(t, s)
		spoil(num(t, s))
		if !same(num(t, s), first) {
			t.Errorf("Parse(%q): memory is shared", s)
		}
		for _, s := range list {
			b, alike := roomy(t, s)
			dec.Cmp(a, b)
			want, _ := dec.Add(a, b)
			got, _ := dec.Add(a, b)
			spoil(got)
			again, _ := dec.Add(a, b)
			if !right() || !alike() || !same(again, want) {
				t.Errorf("Add(%s, %s): memory is shared", a.Text(), s)
			}
		}
	}
	first := dec.Int(-120)
	spoil(dec.Int(-120))
	if !same(dec.Int(-120), first) {
		t.Error("Int: memory is shared")
	}
}

// TestP2AddOfOneAndTheSame: both may be one object.
func TestP2AddOfOneAndTheSame(t *testing.T) {
	d, right := roomy(t, "95.5")
	if sum, err := dec.Add(d, d); err != api.OK || sum.Text() != "191" || !right() {
		t.Errorf("Add: %+v, %v", sum, err)
	}
}

// TestP8WhatIsNotRight: every call ends with some answer that is new memory, and
// changes nothing.
func TestP8WhatIsNotRight(t *testing.T) {
	var list []dec.Dec
	rows([]byte{0, 9, 10, 255}, 2, func(row []byte) {
		for _, scale := range []int{math.MinInt, math.MinInt + 1, -1, 0, 1, 2, 3, math.MaxInt - 1, math.MaxInt} {
			list = append(list, dec.Dec{Digits: row, Scale: scale}, dec.Dec{Digits: row, Scale: scale, Neg: true})
		}
	})
	list = append(list, dec.Dec{Digits: make([]byte, api.MaxToken+1)}, dec.Dec{Digits: bytes.Repeat([]byte{255}, 1<<20), Scale: 1 << 19})
	for _, a := range list {
		before := bytes.Clone(a.Digits)
		_, _, _, _, _ = a.Right(), a.Text(), a.Total(), a.Fraction(), a.Whole()
		spoil(dec.Neg(a))
		for _, b := range list {
			dec.Cmp(a, b)
			sum, err := dec.Add(a, b)
			if err != api.OK && !zero(sum) {
				t.Fatalf("Add(%+v, %+v): %+v beside %v", a, b, sum, err)
			}
			spoil(sum)
		}
		if !bytes.Equal(a.Digits, before) {
			t.Fatalf("%v is %v", before, a.Digits)
		}
	}
}
