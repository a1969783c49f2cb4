package affine_test

import (
	"fmt"
	"math/big"
	"testing"

	"rafter/affine"
	"rafter/api"
)

func TestCanon(t *testing.T) { // P5.2
	for s, want := range map[string]string{
		"1/2 -1/3 0": "3 -2 0", "0 0 -5": "0 0 1", "0 0 5/9": "0 0 1", "0 0": "0 0", "0": "0", "7": "1", "-2/3": "1", "-4 6": "2 -3", "0 -2/7 4": "0 1 -14", "2 4 6": "1 2 3", "-1 -1": "1 1",
		"6/35 10/21 15/14": "36 100 225", "1/2 1/2": "1 1", "3 -5 7": "3 -5 7", "-3 5 -7": "3 -5 7", "0 0 -1 0": "0 0 1 0", "4294967296 8589934592": "1 2", "1/4294967296 1/8589934592": "2 1",
	} {
		got, e := affine.Canon(ratios(s))
		if e != api.OK {
			t.Fatalf("P5.2: Canon(%s): %v", s, e)
		}
		same(t, "P5.2: Canon of "+s, got, row(want))
	}
	for _, none := range [][]api.Ratio{nil, {}, make([]api.Ratio, 0, 5)} {
		if got, e := affine.Canon(none); e != api.ErrArg || len(got) != 0 {
			t.Errorf("P5.2: of no number: %v, %v", got, e)
		}
	}
}

func TestCanonOfAll(t *testing.T) { // P5.2, held against plain numbers
	s := &stream{1}
	for n := range 3000 {
		given := s.ratios(1+n%9, n%14)
		var l []*big.Rat
		for _, r := range given {
			l = append(l, toRat(r))
		}
		want, short := canonOf(l)
		got, e := affine.Canon(given)
		if !short {
			want = nil
		}
		if short != (e == api.OK) || !short && e != api.ErrTooBig {
			t.Fatalf("P5.2: Canon(%v): %v", given, e)
		}
		same(t, fmt.Sprint("P5.2: Canon of ", given), got, want)
		if short && !affine.Canonical(got) {
			t.Fatalf("P5.2: Canon(%v) is not canonical: %v", given, got)
		}
	}
}

func TestCanonTooBig(t *testing.T) { // P5.2, W7: what is told is asked for its length, and nothing else
	over := new(big.Int).Add(most, big.NewInt(1))
	for _, x := range []struct {
		row, want string
	}{
		{most.String() + " 1", most.String() + " 1"},
		{"1 -" + most.String(), "1 -" + most.String()},
		{"0 1/" + most.String() + " 1", "0 1 " + most.String()},
		{over.String() + " 1", ""},
		{"1 -" + over.String(), ""},
		{"1 0 " + over.String(), ""},
		{"1/" + over.String() + " 1", ""},
		{"1/" + most.String() + " " + most.String(), ""}, // no number handed in is too long
		{"1/3 1/" + most.String() + "1", ""},
		{over.String(), "1"}, // long, but not what is told
		{over.String() + " -" + over.String(), "1 -1"},
		{"1/" + over.String() + "7 -3/" + over.String() + "7", "1 -3"},
		{over.String() + "/7 0 " + over.String() + "/21", "3 0 1"},
	} {
		got, e := affine.Canon(ratios(x.row))
		if e == api.OK != (x.want != "") || e != api.OK && e != api.ErrTooBig {
			t.Errorf("P5.2: Canon(%.30s..): %v", x.row, e)
		}
		same(t, "P5.2: Canon of long numbers", got, row(x.want))
	}
}

func TestCanonical(t *testing.T) { // P5.2
	for s, want := range map[string]bool{
		"": false, "0": true, "0 0 0": true, "1": true, "-1": false, "2": false, "2 3": true, "-2 3": false, "2 -3": true, "2 4": false, "0 -1": false, "0 1": true, "0 2": false, "0 0 1 0": true, "0 1 0": true, "0 -1 0": false,
		"6 10 15": true, "6 10 14": false, "6 -10 15": true, "-6 10 15": false, "0 0 -3 4": false, "0 0 3 -4": true, "4294967296 3": true, "4294967296 2": false, "12297829382473034410 12297829382473034411": true,
		most.String() + "0 7": true, most.String() + "0 10": false, "1 1 1 1 1 1 1 1 1 1 1 1 1 1 1 1 1 1 1 1": true,
	} {
		if got := affine.Canonical(row(s)); got != want {
			t.Errorf("P5.2: Canonical(%.30s) = %v", s, got)
		}
	}
	if affine.Canonical([]api.Whole{}) || affine.Canonical(nil) {
		t.Error("P5.2: Canonical of no number")
	}
	s := &stream{2}
	for n := range 3000 {
		given := s.wholes(1+n%5, n%4)
		var l []*big.Rat
		for _, x := range given {
			l = append(l, new(big.Rat).SetInt(toBig(x)))
		}
		canon, _ := canonOf(l)
		if got, want := affine.Canonical(given), say(canon) == say(given); got != want {
			t.Fatalf("P5.2: Canonical(%v) = %v", given, got)
		}
	}
}
