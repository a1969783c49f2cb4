package whole_test

import (
	"fmt"
	"math/big"
	"testing"

	"rafter/api"
	"rafter/whole"
)

// divides holds DivMod(x, y) against plain numbers: math/big's DivMod leaves a rest that is never below 0, too.
func divides(t *testing.T, x, y api.Whole) {
	t.Helper()
	a, b := toBig(x), toBig(y)
	q, r, ok := whole.DivMod(x, y)
	if ok != (b.Sign() != 0) {
		t.Fatalf("P2.3: DivMod(%v, %v) says %v", x, y, ok)
	}
	if !ok {
		same(t, "P2.3: the quotient by 0", q, api.Whole{})
		same(t, "P2.3: what is left by 0", r, api.Whole{})
		return
	}
	wantQ, wantR := new(big.Int).DivMod(a, b, new(big.Int))
	value(t, fmt.Sprint("P2.3: the quotient of ", x, y), q, wantQ)
	value(t, fmt.Sprint("P2.3: what is left of ", x, y), r, wantR)
}

func TestDivMod(t *testing.T) { // P2.3
	for _, x := range []struct{ x, y, q, r string }{
		{"7", "2", "3", "1"}, {"-7", "2", "-4", "1"}, {"7", "-2", "-3", "1"}, {"-7", "-2", "4", "1"},
		{"6", "3", "2", "0"}, {"-6", "3", "-2", "0"}, {"6", "-3", "-2", "0"}, {"-6", "-3", "2", "0"},
		{"0", "5", "0", "0"}, {"0", "-5", "0", "0"}, {"-1", "5", "-1", "4"}, {"-1", "-5", "1", "4"}, {"1", "-5", "0", "1"},
		{"-4294967295", "4294967296", "-1", "1"}, {"-18446744073709551615", "1", "-18446744073709551615", "0"}, {"-18446744073709551615", "18446744073709551616", "-1", "1"},
		{"-8589934591", "2", "-4294967296", "1"}, // One more turns a limb over.
	} {
		q, r, ok := whole.DivMod(num(x.x), num(x.y))
		if !ok || !equal(q, num(x.q)) || !equal(r, num(x.r)) {
			t.Errorf("P2.3: DivMod(%s, %s) = %v, %v, %v", x.x, x.y, q, r, ok)
		}
	}
	for _, x := range some() {
		for _, y := range some() {
			divides(t, x, y)
		}
	}
	for x := range 41 {
		for y := range 41 {
			divides(t, num(fmt.Sprint(x-20)), num(fmt.Sprint(y-20)))
		}
	}
	s := &stream{4}
	for range 3000 {
		x, y := s.upTo(20), s.upTo(10)
		divides(t, x, y)
		divides(t, whole.Mul(x, y), y)
	}
}
