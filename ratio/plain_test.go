package ratio_test

import (
	"fmt"
	"math/big"
	"testing"

	"rafter/api"
	"rafter/ratio"
)

func TestOf(t *testing.T) { // P3.1
	for _, x := range []struct{ p, q, want string }{
		{"6", "-4", "-3/2"}, {"-6", "4", "-3/2"}, {"-6", "-4", "3/2"}, {"6", "4", "3/2"}, {"0", "5", "0"}, {"0", "-5", "0"}, {"7", "7", "1"}, {"-7", "7", "-1"}, {"1", "-1", "-1"},
		{"4294967296", "8589934592", "1/2"}, {"18446744073709551616", "-4294967296", "-4294967296"}, {"1", "18446744073709551616", "1/18446744073709551616"},
	} {
		got, e := ratio.Of(num(x.p), num(x.q))
		if e != api.OK || !equal(got, frac(x.want)) {
			t.Errorf("P3.1: Of(%s, %s) = %v, %v, want %s", x.p, x.q, got, e, x.want)
		}
	}
	for _, p := range wholes() {
		for _, q := range wholes() {
			got, e := ratio.Of(p, q)
			if wholeBig(q).Sign() == 0 {
				if e != api.ErrDivide || !none(got) {
					t.Errorf("P3.1: Of(%v, %v) = %v, %v", p, q, got, e)
				}
				continue
			}
			if e != api.OK {
				t.Fatalf("P3.1: Of(%v, %v): %v", p, q, e)
			}
			value(t, fmt.Sprint("P3.1: Of ", p, q), got, new(big.Rat).SetFrac(wholeBig(p), wholeBig(q)))
		}
	}
}

func TestFrom(t *testing.T) { // P3.1
	same(t, "P3.1: From 0", ratio.From(api.Whole{}), api.Ratio{Den: []uint32{1}})
	same(t, "P3.1: From a sign of 0", ratio.From(api.Whole{Neg: true, Mag: []uint32{0}}), api.Ratio{Den: []uint32{1}})
	for _, x := range wholes() {
		value(t, fmt.Sprint("P3.1: From ", x), ratio.From(x), new(big.Rat).SetInt(wholeBig(x)))
	}
}

func TestTrimSignLimbs(t *testing.T) { // P3.1
	zero := api.Ratio{Den: []uint32{1}}
	for _, r := range []api.Ratio{{}, {Num: num("4")}, {Num: num("-4"), Den: []uint32{0}}, over("0", "7"), {Num: api.Whole{Neg: true}, Den: []uint32{7}}} {
		same(t, fmt.Sprint("P3.1: Trim of 0 as ", r), ratio.Trim(r), zero)
		if ratio.Sign(r) != 0 || ratio.Limbs(r) != 1 {
			t.Errorf("P3.1: Sign and Limbs of 0 as %v: %d, %d", r, ratio.Sign(r), ratio.Limbs(r))
		}
	}
	s := &stream{3}
	list := some()
	for range 1000 {
		list = append(list, s.ratio(12))
	}
	for _, r := range list {
		want := toBig(r)
		value(t, fmt.Sprint("P3.1: Trim ", r), ratio.Trim(r), want)
		if got := ratio.Sign(r); got != want.Sign() {
			t.Errorf("P3.1: Sign(%v) = %d", r, got)
		}
		low := fromBig(want)
		if got := ratio.Limbs(r); got != max(len(low.Num.Mag), len(low.Den)) {
			t.Errorf("P3.1: Limbs(%v) = %d", r, got)
		}
	}
}

func TestLimbs(t *testing.T) { // P3.1: those of lowest terms count, of the longer one
	for n := range 40 {
		long := append(make([]uint32, n), 2)
		for _, x := range []struct {
			r    api.Ratio
			want int
		}{
			{api.Ratio{Num: api.Whole{Neg: true, Mag: long}, Den: []uint32{3}}, n + 1},
			{api.Ratio{Num: num("-3"), Den: append(long, 0)}, n + 1},
			{api.Ratio{Num: api.Whole{Mag: long}, Den: long}, 1},
			{api.Ratio{Num: api.Whole{Mag: append(make([]uint32, n), 2)}, Den: append(make([]uint32, n/2), 2)}, n - n/2 + 1},
		} {
			if got := ratio.Limbs(x.r); got != x.want {
				t.Errorf("P3.1: Limbs(%v) = %d, want %d", x.r, got, x.want)
			}
		}
	}
}

func TestCmp(t *testing.T) { // P3.1
	if got := ratio.Cmp(frac("1/3"), over("2", "6")); got != 0 {
		t.Errorf("P3.1: Cmp(1/3, 2/6) = %d", got)
	}
	for _, r := range some() {
		for _, s := range some() {
			if got := ratio.Cmp(r, s); got != toBig(r).Cmp(toBig(s)) {
				t.Errorf("P3.1: Cmp(%v, %v) = %d", r, s, got)
			}
		}
	}
}

// sums holds what Neg, Add, Sub, Mul and Div answer of r and s against plain numbers.
func sums(t *testing.T, r, s api.Ratio) {
	t.Helper()
	what := fmt.Sprint(" of ", r, s)
	a, b := toBig(r), toBig(s)
	value(t, "P3.2: Neg"+what, ratio.Neg(r), new(big.Rat).Neg(a))
	value(t, "P3.2: Add"+what, ratio.Add(r, s), new(big.Rat).Add(a, b))
	value(t, "P3.2: Sub"+what, ratio.Sub(r, s), new(big.Rat).Sub(a, b))
	value(t, "P3.2: Mul"+what, ratio.Mul(r, s), new(big.Rat).Mul(a, b))
	got, e := ratio.Div(r, s)
	if b.Sign() == 0 {
		if e != api.ErrDivide || !none(got) {
			t.Fatalf("P3.2: Div%s: %v, %v", what, got, e)
		}
		return
	}
	if e != api.OK {
		t.Fatalf("P3.2: Div%s: %v", what, e)
	}
	value(t, "P3.2: Div"+what, got, new(big.Rat).Quo(a, b))
}

func TestSums(t *testing.T) { // P3.2
	same(t, "P3.2: 1/2 + 1/3", ratio.Add(frac("1/2"), frac("1/3")), frac("5/6"))
	same(t, "P3.2: 2/3 times 3/4", ratio.Mul(frac("2/3"), frac("3/4")), frac("1/2"))
	same(t, "P3.2: 1/2 - 1/2", ratio.Sub(frac("1/2"), over("2", "4")), frac("0"))
	same(t, "P3.2: Neg of 0", ratio.Neg(api.Ratio{}), frac("0"))
	same(t, "P3.2: what is over 0 counts as 0", ratio.Add(over("9", "0"), frac("1/7")), frac("1/7"))
	for _, r := range some() {
		for _, s := range some() {
			sums(t, r, s)
		}
	}
	s := &stream{4}
	for range 2000 {
		sums(t, s.ratio(8), s.ratio(8))
	}
}

func TestDiv(t *testing.T) { // P3.2
	for _, x := range []struct{ r, s, want string }{
		{"1/2", "-3/4", "-2/3"}, {"-1/2", "-3/4", "2/3"}, {"-1/2", "3/4", "-2/3"}, {"0", "-3/4", "0"}, {"5", "5", "1"}, {"1/4294967296", "1/4294967296", "1"},
	} {
		if got, e := ratio.Div(frac(x.r), frac(x.s)); e != api.OK || !equal(got, frac(x.want)) {
			t.Errorf("P3.2: Div(%s, %s) = %v, %v", x.r, x.s, got, e)
		}
	}
	for _, s := range []api.Ratio{{}, frac("0"), over("0", "9"), over("9", "0"), {Num: api.Whole{Neg: true, Mag: []uint32{0}}, Den: []uint32{1}}} {
		for _, r := range some() {
			if got, e := ratio.Div(r, s); e != api.ErrDivide || !none(got) {
				t.Errorf("P3.2: Div(%v, %v) = %v, %v", r, s, got, e)
			}
		}
	}
}

func TestFloorAndWhole(t *testing.T) { // P3.3
	for r, want := range map[string]string{"-7/2": "-4", "7/2": "3", "-4": "-4", "4": "4", "0": "0", "1/9": "0", "-1/9": "-1", "-4294967295/4294967296": "-1", "-8589934593/2": "-4294967297", "-8589934591/2": "-4294967296"} {
		sameWhole(t, "P3.3: Floor "+r, ratio.Floor(frac(r)), num(want))
	}
	list := some()
	s := &stream{5}
	for range 1000 {
		list = append(list, s.ratio(10))
	}
	for _, r := range list {
		x := toBig(r)
		down := new(big.Int).Div(x.Num(), x.Denom()) // Div leaves a rest that is never below 0, and Denom is above 0.
		sameWhole(t, fmt.Sprint("P3.3: Floor ", r), ratio.Floor(r), wholeOf(down))
		got, ok := ratio.Whole(r)
		if ok != x.IsInt() {
			t.Errorf("P3.3: Whole(%v) says %v", r, ok)
		}
		if !ok {
			down = new(big.Int)
		}
		sameWhole(t, fmt.Sprint("P3.3: Whole ", r), got, wholeOf(down))
	}
	if got, ok := ratio.Whole(over("-4", "2")); !ok || !equalWhole(got, num("-2")) {
		t.Errorf("P3.3: Whole(-4/2) = %v, %v", got, ok)
	}
	if got, ok := ratio.Whole(over("4", "0")); !ok || !equalWhole(got, num("0")) {
		t.Errorf("P3.3: Whole(4/0) = %v, %v", got, ok)
	}
}
