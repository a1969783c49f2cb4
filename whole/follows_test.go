package whole_test

import (
	"fmt"
	"testing"

	"rafter/api"
	"rafter/whole"
)

// triples answers three numbers at a time.
func triples() [][3]api.Whole {
	var out [][3]api.Whole
	short := []api.Whole{{}, {Neg: true}, num("1"), num("-1"), num("2"), num("-4294967295"), num("4294967296"), num("-18446744073709551616"), {Neg: true, Mag: []uint32{7, 0}}}
	for _, x := range short {
		for _, y := range short {
			for _, z := range short {
				out = append(out, [3]api.Whole{x, y, z})
			}
		}
	}
	s := &stream{6}
	for range 1000 {
		out = append(out, [3]api.Whole{s.upTo(12), s.upTo(12), s.upTo(12)})
	}
	return out
}

func TestSumsAndProducts(t *testing.T) { // P2.6
	for _, l := range triples() {
		x, y, z := l[0], l[1], l[2]
		what := fmt.Sprint("P2.6: ", l)
		same(t, what+" order of a sum", whole.Add(x, y), whole.Add(y, x))
		same(t, what+" order of a product", whole.Mul(x, y), whole.Mul(y, x))
		same(t, what+" grouping of a sum", whole.Add(whole.Add(x, y), z), whole.Add(x, whole.Add(y, z)))
		same(t, what+" grouping of a product", whole.Mul(whole.Mul(x, y), z), whole.Mul(x, whole.Mul(y, z)))
		same(t, what+" a product of a sum", whole.Mul(x, whole.Add(y, z)), whole.Add(whole.Mul(x, y), whole.Mul(x, z)))
		same(t, what+" Sum", whole.Sum(x, y, z), whole.Sum(z, x, y))
		same(t, what+" Sum of a sum", whole.Sum(x, y, z), whole.Add(x, whole.Add(y, z)))
		same(t, what+" a number and its other side", whole.Add(x, whole.Neg(x)), api.Whole{})
		same(t, what+" Neg twice", whole.Neg(whole.Neg(x)), whole.Trim(x))
		same(t, what+" Sub", whole.Sub(x, y), whole.Add(x, whole.Neg(y)))
		if none := whole.Sign(whole.Mul(x, y)) == 0; none != (whole.Sign(x) == 0 || whole.Sign(y) == 0) {
			t.Fatal(what+" the product is 0: ", none)
		}
	}
}

func TestOrder(t *testing.T) { // P2.6
	for _, l := range triples() {
		x, y, z := l[0], l[1], l[2]
		way := whole.Cmp(x, y)
		if whole.Cmp(y, x) != -way || whole.Cmp(x, x) != 0 || whole.Sign(whole.Sub(x, y)) != way {
			t.Fatal("P2.6: Cmp of ", x, y)
		}
		if whole.Cmp(whole.Add(x, z), whole.Add(y, z)) != way || whole.Cmp(whole.Add(z, x), whole.Add(z, y)) != way {
			t.Fatal("P2.6: Cmp does not go with Add: ", l)
		}
		if whole.Cmp(whole.Neg(x), whole.Neg(y)) != -way {
			t.Fatal("P2.6: Cmp does not turn round with Neg: ", l)
		}
		if way <= 0 && whole.Cmp(y, z) <= 0 && whole.Cmp(x, z) != min(way, whole.Cmp(y, z)) {
			t.Fatal("P2.6: Cmp is no order: ", l)
		}
		if (way == 0) != equal(whole.Trim(x), whole.Trim(y)) {
			t.Fatal("P2.6: Cmp says 0 of two, or not of one: ", l)
		}
	}
}

func TestGcdOfRest(t *testing.T) { // P2.7
	for _, l := range triples() {
		x, y := l[0], l[1]
		if q, r, ok := whole.DivMod(x, y); ok {
			same(t, fmt.Sprint("P2.7: Gcd of ", x, y), whole.Gcd(x, y), whole.Gcd(y, r))
			same(t, fmt.Sprint("P2.3: q y + r of ", x, y), whole.Add(whole.Mul(q, y), r), whole.Trim(x))
			if whole.Sign(r) < 0 || whole.Cmp(r, api.Whole{Mag: y.Mag}) >= 0 {
				t.Fatal("P2.3: what is left of ", x, y, r)
			}
		}
	}
}
