package limbs_test

import (
	"math/big"
	"slices"
	"testing"
)

// The tests ask the exported calls alone, and hold them against math/big, which shares no code with them.

type nat = []uint32

const top = 1<<32 - 1

// edges are the limbs at which carries, borrows and guesses turn.
var edges = nat{0, 1, 1<<31 - 1, 1 << 31, top - 1, top}

// toBig reads a as the chapter says: the sum of a[i] 2^(32 i).
func toBig(a nat) *big.Int {
	x := new(big.Int)
	for i := len(a) - 1; i >= 0; i-- {
		x.Lsh(x, 32).Or(x, new(big.Int).SetUint64(uint64(a[i])))
	}
	return x
}

// fromBig answers the one form of x.
func fromBig(x *big.Int) nat {
	var a nat
	for rest := new(big.Int).Set(x); rest.Sign() > 0; rest.Rsh(rest, 32) {
		a = append(a, uint32(new(big.Int).And(rest, big.NewInt(top)).Uint64()))
	}
	return a
}

// is says whether got has the one form of the value want, limb for limb.
func is(got nat, want *big.Int) bool { return slices.Equal(got, fromBig(want)) }

// below answers every list of at most n limbs, each of them one of from.
func below(n int, from nat) []nat {
	all := []nat{nil}
	for first, length := 0, 1; length <= n; length++ {
		last := len(all)
		for _, a := range all[first:last] {
			for _, x := range from {
				all = append(all, append(slices.Clone(a), x))
			}
		}
		first = last
	}
	return all
}

// stream answers numbers that look as if by chance, the same ones in each run.
type stream struct{ at uint64 }

func (s *stream) next() uint32 {
	s.at = s.at*6364136223846793005 + 1442695040888963407
	return uint32(s.at>>33 ^ s.at>>17)
}

// nat answers a list of n limbs, some of them edges.
func (s *stream) nat(n int) nat {
	a := make(nat, n)
	for i := range a {
		a[i] = s.next()
		if s.next()%4 == 0 {
			a[i] = edges[s.next()%uint32(len(edges))]
		}
	}
	return a
}

// upTo answers a list of 0 to n limbs.
func (s *stream) upTo(n int) nat { return s.nat(int(s.next() % uint32(n+1))) }

// padded answers a with k limbs 0 on top.
func padded(a nat, k int) nat { return append(slices.Clone(a), make(nat, k)...) }

// same fails the test if two lists differ.
func same(t *testing.T, what string, got, want nat) {
	t.Helper()
	if !slices.Equal(got, want) {
		t.Fatalf("%s: %v, want %v", what, got, want)
	}
}

// value fails the test if got is not the one form of want.
func value(t *testing.T, what string, got nat, want *big.Int) {
	t.Helper()
	if !is(got, want) {
		t.Fatalf("%s: %v, want %v", what, got, fromBig(want))
	}
}
