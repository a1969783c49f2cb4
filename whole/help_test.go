package whole_test

import (
	"math/big"
	"slices"
	"testing"

	"rafter/api"
)

// The tests ask the exported calls alone, and hold them against math/big, which shares no code with them.

const top = 1<<32 - 1

// toBig reads x as the chapter says: the sum of its limbs, below 0 where Neg is true.
func toBig(x api.Whole) *big.Int {
	out := new(big.Int)
	for _, limb := range slices.Backward(x.Mag) {
		out.Lsh(out, 32).Or(out, new(big.Int).SetUint64(uint64(limb)))
	}
	if x.Neg {
		out.Neg(out)
	}
	return out
}

// fromBig answers the one form of x.
func fromBig(x *big.Int) api.Whole {
	out := api.Whole{Neg: x.Sign() < 0}
	for rest := new(big.Int).Abs(x); rest.Sign() > 0; rest.Rsh(rest, 32) {
		out.Mag = append(out.Mag, uint32(new(big.Int).And(rest, big.NewInt(top)).Uint64()))
	}
	return out
}

// num answers the one form of a number in decimal digits.
func num(s string) api.Whole {
	x, ok := new(big.Int).SetString(s, 10)
	if !ok {
		panic("no number: " + s)
	}
	return fromBig(x)
}

// equal says whether x and y are the same, field for field.
func equal(x, y api.Whole) bool { return x.Neg == y.Neg && slices.Equal(x.Mag, y.Mag) }

// value fails the test if got is not the one form of want.
func value(t *testing.T, what string, got api.Whole, want *big.Int) {
	t.Helper()
	if !equal(got, fromBig(want)) {
		t.Fatalf("%s: %v, want %v", what, got, fromBig(want))
	}
}

// same fails the test if two numbers are not the same, field for field.
func same(t *testing.T, what string, got, want api.Whole) {
	t.Helper()
	if !equal(got, want) {
		t.Fatalf("%s: %v, want %v", what, got, want)
	}
}

// stream answers numbers that look as if by chance, the same ones in each run.
type stream struct{ at uint64 }

func (s *stream) next() uint32 {
	s.at = s.at*6364136223846793005 + 1442695040888963407
	return uint32(s.at>>33 ^ s.at>>17)
}

// upTo answers a number of 0 to n limbs, some of them at an edge; it may have limbs 0 on top, and a sign of 0.
func (s *stream) upTo(n int) api.Whole {
	edges := []uint32{0, 1, 1<<31 - 1, 1 << 31, top - 1, top}
	mag := make([]uint32, s.next()%uint32(n+1))
	for i := range mag {
		mag[i] = s.next()
		if s.next()%4 == 0 {
			mag[i] = edges[s.next()%uint32(len(edges))]
		}
	}
	return api.Whole{Neg: s.next()%2 == 0, Mag: mag}
}

// some answers numbers of both signs, at the edges of limbs and of ints, in forms of every kind.
func some() []api.Whole {
	var out []api.Whole
	mags := [][]uint32{nil, {}, {0}, {0, 0}, {1}, {2}, {3, 0}, {5}, {7}, {top}, {0, 1}, {top, 1<<31 - 1}, {0, 1 << 31}, {1, 1 << 31, 0}, {top, top}, {0, 0, 1}, {3, 0, 9}}
	for _, mag := range mags {
		out = append(out, api.Whole{Mag: mag}, api.Whole{Neg: true, Mag: mag})
	}
	s := &stream{1}
	for n := range 20 {
		out = append(out, s.upTo(n))
	}
	return out
}
