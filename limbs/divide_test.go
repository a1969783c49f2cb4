package limbs_test

import (
	"fmt"
	"math/big"
	"testing"

	"rafter/limbs"
)

// divides holds DivMod(a, b) against plain numbers; b is not 0.
func divides(t *testing.T, a, b nat) {
	t.Helper()
	q, r, ok := limbs.DivMod(a, b)
	if !ok {
		t.Fatalf("P1.3: DivMod(%v, %v) says false", a, b)
	}
	wantQ, wantR := new(big.Int).QuoRem(toBig(a), toBig(b), new(big.Int))
	value(t, fmt.Sprint("P1.3: the quotient of ", a, b), q, wantQ)
	value(t, fmt.Sprint("P1.3: what is left of ", a, b), r, wantR)
}

func TestDivModByZero(t *testing.T) { // P1.3
	for _, a := range []nat{nil, {}, {0}, {7}, {0, 0, 1}, full(50)} {
		for _, b := range []nat{nil, {}, {0}, {0, 0, 0}} {
			if q, r, ok := limbs.DivMod(a, b); ok || len(q) != 0 || len(r) != 0 {
				t.Errorf("P1.3: DivMod(%v, %v) = %v, %v, %v", a, b, q, r, ok)
			}
		}
	}
}

func TestDivModEdges(t *testing.T) { // P1.3
	for _, a := range below(4, edges) {
		for _, b := range below(3, nat{0, 1, 1<<31 - 1, 1 << 31, top}) {
			if toBig(b).Sign() != 0 {
				divides(t, a, b)
			}
		}
	}
	for _, x := range []struct{ a, b nat }{
		{nat{0, 1}, nat{3}}, {nil, nat{3}}, {nat{2}, nat{3}}, {nat{3}, nat{3}}, {nat{5}, nat{0, 1}}, {nat{5, 0, 0}, nat{0, 1, 0}},
		// The guess of a limb is one too great, and what was taken away is added back.
		{nat{0, 0, 1 << 31, 1<<31 - 1}, nat{1, 0, 1 << 31}}, {nat{3, 0, 1 << 31}, nat{1, 0, 1 << 29}}, {nat{0, top - 1, 1 << 31}, nat{top, 1 << 31}},
		{nat{0, 0, 0, 1 << 31, 1<<31 - 1}, nat{1, 0, 0, 1 << 31}}, {nat{0, 0, 1 << 31, 0, 1<<31 - 1}, nat{top, 0, 0, 1 << 31}},
		// The upper limbs are those of the divisor: the first guess has more than 32 bits.
		{nat{0, top, top}, nat{top, top}}, {nat{top, top - 1, top}, nat{top, top}}, {nat{0, 0, top - 1, top}, nat{top, top - 1, top}},
	} {
		divides(t, x.a, x.b)
	}
}

func TestDivModLong(t *testing.T) { // P1.3
	s := &stream{2}
	for range 4000 {
		a, b := s.upTo(40), append(s.upTo(20), s.next()>>(s.next()%32)|1)
		divides(t, a, b)
		// Near a whole multiple: the rest is 0, or one less than the divisor.
		times := limbs.Mul(a, b)
		divides(t, times, b)
		divides(t, limbs.Add(times, nat{1}), b)
		if less, ok := limbs.Sub(times, nat{1}); ok {
			divides(t, less, b)
		}
	}
	divides(t, full(400), full(200))
	divides(t, append(make(nat, 400), 1), full(200))
	divides(t, full(400), nat{1})
	divides(t, full(400), full(400))
	divides(t, full(400), full(401))
}

func TestGcd(t *testing.T) { // P1.4
	for _, x := range []struct{ a, b, want nat }{
		{nat{12}, nat{18}, nat{6}}, {nil, nat{0, 1}, nat{0, 1}}, {nil, nil, nil}, {nat{0}, nat{0, 0}, nil}, {nat{0, 0, 3}, nat{0, 9}, nat{0, 3}},
		{nat{5, 6, 7, 0}, nil, nat{5, 6, 7}}, {nat{1}, nat{5, 6, 7}, nat{1}}, {nat{5, 6, 7}, nat{5, 6, 7}, nat{5, 6, 7}}, {nat{top}, nat{top, top}, nat{top}},
		{full(6), full(4), full(2)}, {full(60), full(42), full(6)},
	} {
		same(t, fmt.Sprint("P1.4: Gcd ", x.a, x.b), limbs.Gcd(x.a, x.b), x.want)
		same(t, fmt.Sprint("P1.4: Gcd ", x.b, x.a), limbs.Gcd(x.b, x.a), x.want)
	}
	for _, x := range pairs() {
		want := new(big.Int).GCD(nil, nil, toBig(x[0]), toBig(x[1]))
		value(t, fmt.Sprint("P1.4: Gcd ", x), limbs.Gcd(x[0], x[1]), want)
	}
}

func TestGcdShared(t *testing.T) { // P1.4: numbers that have much in common
	s := &stream{3}
	for range 1500 {
		g := s.upTo(12)
		a, b := limbs.Mul(g, s.upTo(12)), limbs.Mul(g, s.upTo(12))
		want := new(big.Int).GCD(nil, nil, toBig(a), toBig(b))
		value(t, fmt.Sprint("P1.4: Gcd ", a, b), limbs.Gcd(a, b), want)
	}
}

func TestGcdNeighbours(t *testing.T) { // P1.4: every quotient on the way is 1, or 1 and one great one
	a, b := nat{1}, nat{1}
	g := nat{7, 7, 7}
	for range 600 {
		a, b = limbs.Add(a, b), a
		same(t, "P1.4: Gcd of neighbours", limbs.Gcd(a, b), nat{1})
		same(t, "P1.4: Gcd of neighbours", limbs.Gcd(limbs.Mul(g, b), limbs.Mul(g, a)), g)
		great := limbs.Add(limbs.Mul(a, nat{3, 0, 0, 0, 5}), b)
		same(t, "P1.4: Gcd far apart", limbs.Gcd(great, a), nat{1})
		same(t, "P1.4: Gcd close by", limbs.Gcd(limbs.Add(great, nat{1}), great), nat{1})
	}
}
