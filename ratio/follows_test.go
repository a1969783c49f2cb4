package ratio_test

import (
	"fmt"
	"math/big"
	"testing"

	"rafter/api"
	"rafter/ratio"
)

// triples answers three fractions at a time.
func triples() [][3]api.Ratio {
	var out [][3]api.Ratio
	short := []api.Ratio{{}, frac("1"), frac("-1"), frac("1/2"), over("-6", "4"), over("5", "0"), frac("-4294967295/4294967296"), frac("18446744073709551616/3"), {Num: api.Whole{Neg: true, Mag: []uint32{7, 0}}, Den: []uint32{0, 14, 0}}}
	for _, r := range short {
		for _, s := range short {
			for _, u := range short {
				out = append(out, [3]api.Ratio{r, s, u})
			}
		}
	}
	s := &stream{7}
	for range 600 {
		out = append(out, [3]api.Ratio{s.ratio(5), s.ratio(5), s.ratio(5)})
	}
	return out
}

func TestField(t *testing.T) { // P3.5
	zero, one := frac("0"), frac("1")
	for _, l := range triples() {
		r, s, u := l[0], l[1], l[2]
		what := fmt.Sprint("P3.5: ", l)
		same(t, what+" order of a sum", ratio.Add(r, s), ratio.Add(s, r))
		same(t, what+" order of a product", ratio.Mul(r, s), ratio.Mul(s, r))
		same(t, what+" grouping of a sum", ratio.Add(ratio.Add(r, s), u), ratio.Add(r, ratio.Add(s, u)))
		same(t, what+" grouping of a product", ratio.Mul(ratio.Mul(r, s), u), ratio.Mul(r, ratio.Mul(s, u)))
		same(t, what+" a product of a sum", ratio.Mul(r, ratio.Add(s, u)), ratio.Add(ratio.Mul(r, s), ratio.Mul(r, u)))
		same(t, what+" a number and its other side", ratio.Add(r, ratio.Neg(r)), zero)
		same(t, what+" 0 and more", ratio.Add(r, zero), ratio.Trim(r))
		same(t, what+" once", ratio.Mul(r, one), ratio.Trim(r))
		same(t, what+" Sub", ratio.Sub(r, s), ratio.Add(r, ratio.Neg(s)))
		back, e := ratio.Div(ratio.Mul(r, s), s)
		if (e == api.ErrDivide) != (ratio.Sign(s) == 0) {
			t.Fatal(what+" Div says ", e)
		}
		if e == api.OK {
			same(t, what+" times and divided", back, ratio.Trim(r))
		}
	}
}

// oneForm fails the test if r is not told in lowest terms, limb for limb.
func oneForm(t *testing.T, what string, r api.Ratio) {
	t.Helper()
	common := new(big.Int).GCD(nil, nil, natBig(r.Num.Mag), natBig(r.Den))
	topNum, topDen := len(r.Num.Mag) > 0 && r.Num.Mag[len(r.Num.Mag)-1] == 0, len(r.Den) == 0 || r.Den[len(r.Den)-1] == 0
	if common.Cmp(big.NewInt(1)) != 0 || topNum || topDen || r.Num.Neg && len(r.Num.Mag) == 0 {
		t.Fatalf("P3.6: %s: %v is not in its one form", what, r)
	}
}

func TestOneForm(t *testing.T) { // P3.6: the same number just if the same bit for bit
	for _, l := range triples() {
		r, s, u := l[0], l[1], l[2]
		told := []api.Ratio{ratio.Trim(r), ratio.Neg(s), ratio.Add(r, s), ratio.Sub(r, s), ratio.Mul(s, u), ratio.Sub(ratio.Add(r, s), s), ratio.From(s.Num)}
		if x, e := ratio.Div(r, s); e == api.OK {
			told = append(told, x, ratio.Mul(x, s))
		}
		for _, a := range told {
			oneForm(t, fmt.Sprint(l), a)
			for _, b := range told {
				if equal(a, b) != (ratio.Cmp(a, b) == 0) {
					t.Fatalf("P3.6: %v and %v: the same bit for bit: %v", a, b, equal(a, b))
				}
			}
		}
	}
}

func TestFloorBounds(t *testing.T) { // P3.7
	for _, l := range triples() {
		for _, r := range l {
			down := ratio.From(ratio.Floor(r))
			rest := ratio.Sub(r, down)
			if ratio.Cmp(down, r) > 0 || ratio.Sign(rest) < 0 || ratio.Cmp(rest, frac("1")) >= 0 {
				t.Fatalf("P3.7: Floor(%v) = %v", r, down)
			}
			if x, ok := ratio.Whole(r); ok != (ratio.Sign(rest) == 0) || ok && !equal(ratio.From(x), down) {
				t.Fatalf("P3.3: Whole(%v) = %v, %v", r, x, ok)
			}
		}
	}
}

func TestOrder(t *testing.T) { // P3.7
	for _, l := range triples() {
		r, s, u := l[0], l[1], l[2]
		way := ratio.Cmp(r, s)
		if ratio.Cmp(s, r) != -way || ratio.Cmp(r, r) != 0 || ratio.Sign(ratio.Sub(r, s)) != way {
			t.Fatal("P3.7: Cmp of ", r, s)
		}
		if ratio.Cmp(ratio.Add(r, u), ratio.Add(s, u)) != way || ratio.Cmp(ratio.Add(u, r), ratio.Add(u, s)) != way {
			t.Fatal("P3.7: Cmp does not go with Add: ", l)
		}
		if ratio.Cmp(ratio.Mul(r, u), ratio.Mul(s, u)) != way*ratio.Sign(u) {
			t.Fatal("P3.7: Cmp does not go with Mul, or does not turn round: ", l)
		}
		if way <= 0 && ratio.Cmp(s, u) <= 0 && ratio.Cmp(r, u) != min(way, ratio.Cmp(s, u)) {
			t.Fatal("P3.7: Cmp is no order: ", l)
		}
	}
}
