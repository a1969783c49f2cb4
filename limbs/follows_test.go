package limbs_test

import (
	"fmt"
	"strings"
	"testing"

	"rafter/api"
	"rafter/limbs"
)

// triples answers three lists at a time.
func triples() [][3]nat {
	var out [][3]nat
	short := below(2, nat{0, 1, 1 << 31, top})
	for _, a := range short {
		for _, b := range short {
			for _, c := range short {
				out = append(out, [3]nat{a, b, c})
			}
		}
	}
	s := &stream{5}
	for range 1000 {
		out = append(out, [3]nat{s.upTo(12), s.upTo(12), s.upTo(12)})
	}
	return out
}

func TestSumsAndProducts(t *testing.T) { // P1.8
	for _, x := range triples() {
		a, b, c := x[0], x[1], x[2]
		what := fmt.Sprint("P1.8: ", x)
		same(t, what+" order of a sum", limbs.Add(a, b), limbs.Add(b, a))
		same(t, what+" order of a product", limbs.Mul(a, b), limbs.Mul(b, a))
		same(t, what+" grouping of a sum", limbs.Add(limbs.Add(a, b), c), limbs.Add(a, limbs.Add(b, c)))
		same(t, what+" grouping of a product", limbs.Mul(limbs.Mul(a, b), c), limbs.Mul(a, limbs.Mul(b, c)))
		same(t, what+" a product of a sum", limbs.Mul(a, limbs.Add(b, c)), limbs.Add(limbs.Mul(a, b), limbs.Mul(a, c)))
		again, ok := limbs.Sub(limbs.Add(a, b), b)
		if !ok {
			t.Fatal(what + " Sub says false")
		}
		same(t, what+" added and taken away again", again, limbs.Trim(a))
		q, r, ok := limbs.DivMod(a, b)
		if ok != (limbs.Cmp(b, nil) != 0) {
			t.Fatal(what+" DivMod says ", ok)
		}
		if ok && limbs.Cmp(r, b) >= 0 {
			t.Fatal(what+" what is left is not below the divisor: ", r)
		}
		if ok {
			same(t, what+" q b + r", limbs.Add(limbs.Mul(q, b), r), limbs.Trim(a))
		}
	}
}

// divisible says whether d divides a.
func divisible(a, d nat) bool {
	_, r, ok := limbs.DivMod(a, d)
	return len(r) == 0 && (ok || limbs.Cmp(a, nil) == 0)
}

func TestGcdDivides(t *testing.T) { // P1.9
	for _, x := range triples() {
		a, b, c := x[0], x[1], x[2]
		g := limbs.Gcd(a, b)
		if !divisible(a, g) || !divisible(b, g) {
			t.Fatalf("P1.9: Gcd(%v, %v) = %v does not divide both", a, b, g)
		}
		if divisible(a, c) && divisible(b, c) && !divisible(g, c) {
			t.Fatalf("P1.9: %v divides %v and %v, but not their Gcd %v", c, a, b, g)
		}
		same(t, fmt.Sprint("P1.9: Gcd(a b, a c) of ", x), limbs.Gcd(limbs.Mul(a, b), limbs.Mul(a, c)), limbs.Mul(a, limbs.Gcd(b, c)))
	}
	for a := range uint64(60) {
		for b := range uint64(60) {
			g := limbs.Gcd(limbs.Small(a), limbs.Small(b))
			for d := uint64(1); d < 60; d++ {
				if a%d == 0 && b%d == 0 && !divisible(g, limbs.Small(d)) {
					t.Fatalf("P1.9: %d divides %d and %d, but not their Gcd %v", d, a, b, g)
				}
			}
		}
	}
}

func TestThereAndBack(t *testing.T) { // P1.10
	for _, a := range shifted() {
		for _, n := range []int{0, 1, 31, 32, 33, 64, 999, api.MaxShift} {
			up, _ := limbs.Left(a, n)
			one, _ := limbs.Left(nat{1}, n)
			down, _ := limbs.Right(up, n)
			same(t, fmt.Sprint("P1.10: Left ", a, n), up, limbs.Mul(a, one))
			same(t, fmt.Sprint("P1.10: Right of Left ", a, n), down, limbs.Trim(a))
		}
		s := limbs.Text(a)
		back, e := limbs.Parse(s)
		if e != api.OK {
			t.Fatalf("P1.10: Parse(Text(%v)): %v", a, e)
		}
		same(t, fmt.Sprint("P1.10: Parse of Text ", a), back, limbs.Trim(a))
	}
	s := &stream{6}
	for n := range 300 {
		digits := make([]byte, n+1)
		for i := range digits {
			digits[i] = byte('0' + s.next()%10)
		}
		textBack(t, string(digits))
		textBack(t, strings.Repeat("0", n+1))
		textBack(t, strings.Repeat("0", n)+string(digits))
	}
	textBack(t, strings.Repeat("9", api.MaxDigits))
	textBack(t, "0"+strings.Repeat("8", api.MaxDigits-1))
}

// textBack fails the test if Text(Parse(s)) is not s without noughts ahead.
func textBack(t *testing.T, s string) {
	t.Helper()
	want := strings.TrimLeft(s, "0")
	if want == "" {
		want = "0"
	}
	a, e := limbs.Parse(s)
	if got := limbs.Text(a); e != api.OK || got != want {
		t.Fatalf("P1.10: Text(Parse(%.50s)) = %.50s, %v", s, got, e)
	}
}
