package ratio_test

import (
	"math/big"
	"slices"
	"testing"

	"rafter/api"
)

// The tests ask the exported calls alone, and hold them against math/big, which shares no code with them.

const top = 1<<32 - 1

// natBig reads limbs as chapter 1 says: the sum of a[i] 2^(32 i).
func natBig(a []uint32) *big.Int {
	out := new(big.Int)
	for _, limb := range slices.Backward(a) {
		out.Lsh(out, 32).Or(out, new(big.Int).SetUint64(uint64(limb)))
	}
	return out
}

// wholeBig reads a whole number as chapter 2 says.
func wholeBig(x api.Whole) *big.Int {
	out := natBig(x.Mag)
	if x.Neg {
		out.Neg(out)
	}
	return out
}

// toBig reads r as the chapter says: Num over Den, or 0 if Den is 0.
func toBig(r api.Ratio) *big.Rat {
	den := natBig(r.Den)
	if den.Sign() == 0 {
		return new(big.Rat)
	}
	return new(big.Rat).SetFrac(wholeBig(r.Num), den)
}

// natOf answers the one form of a natural.
func natOf(x *big.Int) []uint32 {
	var out []uint32
	for rest := new(big.Int).Set(x); rest.Sign() > 0; rest.Rsh(rest, 32) {
		out = append(out, uint32(new(big.Int).And(rest, big.NewInt(top)).Uint64()))
	}
	return out
}

// wholeOf answers the one form of a whole number.
func wholeOf(x *big.Int) api.Whole {
	return api.Whole{Neg: x.Sign() < 0, Mag: natOf(new(big.Int).Abs(x))}
}

// fromBig answers the one form of x, which math/big keeps in lowest terms.
func fromBig(x *big.Rat) api.Ratio {
	return api.Ratio{Num: wholeOf(x.Num()), Den: natOf(x.Denom())}
}

// num answers the one form of a whole number in decimal digits.
func num(s string) api.Whole {
	x, ok := new(big.Int).SetString(s, 10)
	if !ok {
		panic("no number: " + s)
	}
	return wholeOf(x)
}

// frac answers the one form of a fraction in decimal digits.
func frac(s string) api.Ratio {
	x, ok := new(big.Rat).SetString(s)
	if !ok {
		panic("no fraction: " + s)
	}
	return fromBig(x)
}

// over answers p / q as it stands, in no lowest terms.
func over(p, q string) api.Ratio { return api.Ratio{Num: num(p), Den: num(q).Mag} }

// equalWhole says whether x and y are the same, field for field.
func equalWhole(x, y api.Whole) bool { return x.Neg == y.Neg && slices.Equal(x.Mag, y.Mag) }

// equal says whether r and s are the same, field for field.
func equal(r, s api.Ratio) bool { return equalWhole(r.Num, s.Num) && slices.Equal(r.Den, s.Den) }

// none says whether r is the zero value: not the number 0, whose Den is 1.
func none(r api.Ratio) bool { return !r.Num.Neg && len(r.Num.Mag) == 0 && len(r.Den) == 0 }

// same fails the test if two fractions are not the same, field for field.
func same(t *testing.T, what string, got, want api.Ratio) {
	t.Helper()
	if !equal(got, want) {
		t.Fatalf("%s: %v, want %v", what, got, want)
	}
}

// value fails the test if got is not the one form of want.
func value(t *testing.T, what string, got api.Ratio, want *big.Rat) {
	t.Helper()
	same(t, what, got, fromBig(want))
}

// sameWhole fails the test if two whole numbers are not the same, field for field.
func sameWhole(t *testing.T, what string, got, want api.Whole) {
	t.Helper()
	if !equalWhole(got, want) {
		t.Fatalf("%s: %v, want %v", what, got, want)
	}
}

// stream answers numbers that look as if by chance, the same ones in each run.
type stream struct{ at uint64 }

func (s *stream) next() uint32 {
	s.at = s.at*6364136223846793005 + 1442695040888963407
	return uint32(s.at>>33 ^ s.at>>17)
}

// nat answers 0 to n limbs, some of them at an edge; those on top may be 0.
func (s *stream) nat(n int) []uint32 {
	edges := []uint32{0, 1, 1<<31 - 1, 1 << 31, top - 1, top}
	out := make([]uint32, s.next()%uint32(n+1))
	for i := range out {
		out[i] = s.next()
		if s.next()%4 == 0 {
			out[i] = edges[s.next()%uint32(len(edges))]
		}
	}
	return out
}

// whole answers a number of 0 to n limbs; it may have limbs 0 on top, and a sign of 0.
func (s *stream) whole(n int) api.Whole {
	return api.Whole{Neg: s.next()%2 == 0, Mag: s.nat(n)}
}

// ratio answers a fraction of terms of 0 to n limbs, in any form; every other one has much in common above and below.
func (s *stream) ratio(n int) api.Ratio {
	r := api.Ratio{Num: s.whole(n), Den: s.nat(n)}
	if s.next()%2 == 0 {
		common := natBig(s.nat(n))
		r.Num.Mag = natOf(new(big.Int).Mul(natBig(r.Num.Mag), common))
		r.Den = natOf(new(big.Int).Mul(natBig(r.Den), common))
	}
	return r
}

// wholes answers whole numbers of both signs, in forms of every kind.
func wholes() []api.Whole {
	var out []api.Whole
	for _, mag := range [][]uint32{nil, {}, {0}, {0, 0}, {1}, {2}, {3, 0}, {4}, {6}, {7}, {top}, {0, 1}, {0, 6, 0}, {top, top}, {0, 0, 1}, {3, 0, 9}} {
		out = append(out, api.Whole{Mag: mag}, api.Whole{Neg: true, Mag: mag})
	}
	s := &stream{1}
	for n := range 8 {
		out = append(out, s.whole(n))
	}
	return out
}

// some answers fractions in forms of every kind: not in lowest terms, over 0, with limbs 0 on top and with a sign of 0.
func some() []api.Ratio {
	out := []api.Ratio{{}, {Num: num("4")}, {Num: num("-4"), Den: []uint32{0, 0}}}
	for _, mag := range [][]uint32{nil, {0}, {1}, {4}, {6, 0}, {top}, {0, 1}, {0, 6}} {
		for _, den := range [][]uint32{{1}, {2, 0}, {3}, {4}, {12}, {0, 2}, {top, top}} {
			out = append(out, api.Ratio{Num: api.Whole{Mag: mag}, Den: den}, api.Ratio{Num: api.Whole{Neg: true, Mag: mag}, Den: den})
		}
	}
	s := &stream{2}
	for n := range 12 {
		out = append(out, s.ratio(n))
	}
	return out
}
