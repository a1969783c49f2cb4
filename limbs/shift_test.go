package limbs_test

import (
	"fmt"
	"math"
	"math/big"
	"testing"

	"rafter/api"
	"rafter/limbs"
)

// shifted are lists for moving: the short ones of edges, and two long ones.
func shifted() []nat {
	s := &stream{4}
	return append(below(3, nat{0, 1, 1 << 31, top}), s.nat(20), s.nat(200), full(130), make(nat, 130))
}

func TestLeft(t *testing.T) { // P1.5
	for _, a := range shifted() {
		for _, n := range []int{0, 1, 30, 31, 32, 33, 63, 64, 65, 95, 96, 1000, api.MaxShift - 1, api.MaxShift} {
			got, e := limbs.Left(a, n)
			if e != api.OK {
				t.Fatalf("P1.5: Left(%v, %d): %v", a, n, e)
			}
			value(t, fmt.Sprint("P1.5: Left ", a, n), got, new(big.Int).Lsh(toBig(a), uint(n)))
		}
		for _, n := range []int{-1, -32, math.MinInt, math.MinInt + 1} {
			if got, e := limbs.Left(a, n); e != api.ErrArg || len(got) != 0 {
				t.Fatalf("P1.5: Left(%v, %d) = %v, %v", a, n, got, e)
			}
		}
		for _, n := range []int{api.MaxShift + 1, 1 << 20, 1 << 40, math.MaxInt} {
			if got, e := limbs.Left(a, n); e != api.ErrTooBig || len(got) != 0 {
				t.Fatalf("P1.5: Left(%v, %d) = %v, %v", a, n, got, e)
			}
		}
	}
	for n := range api.MaxShift + 1 {
		got, _ := limbs.Left(nat{3, 1 << 31}, n)
		value(t, fmt.Sprint("P1.5: Left by ", n), got, new(big.Int).Lsh(toBig(nat{3, 1 << 31}), uint(n)))
	}
}

func TestRight(t *testing.T) { // P1.5
	for _, a := range shifted() {
		for _, n := range []int{0, 1, 30, 31, 32, 33, 63, 64, 65, 95, 96, 97, 1000, api.MaxShift, api.MaxShift + 1, 6399, 6400} {
			got, e := limbs.Right(a, n)
			if e != api.OK {
				t.Fatalf("P1.5: Right(%v, %d): %v", a, n, e)
			}
			value(t, fmt.Sprint("P1.5: Right ", a, n), got, new(big.Int).Rsh(toBig(a), uint(n)))
		}
		for _, n := range []int{6401, 1 << 31, 1<<32 + 1, 1 << 37, 1 << 62, math.MaxInt - 31, math.MaxInt} {
			if got, e := limbs.Right(a, n); e != api.OK || len(got) != 0 {
				t.Fatalf("P1.5: Right(%v, %d) = %v, %v", a, n, got, e)
			}
		}
		for _, n := range []int{-1, -32, -33, math.MinInt, math.MinInt + 1} {
			if got, e := limbs.Right(a, n); e != api.ErrArg || len(got) != 0 {
				t.Fatalf("P1.5: Right(%v, %d) = %v, %v", a, n, got, e)
			}
		}
	}
}

func TestBits(t *testing.T) { // P1.5
	for _, x := range []struct {
		a    nat
		want int
	}{
		{nil, 0}, {nat{}, 0}, {nat{0, 0}, 0}, {nat{1}, 1}, {nat{2}, 2}, {nat{3}, 2}, {nat{4}, 3}, {nat{top}, 32}, {nat{1 << 31}, 32},
		{nat{0, 1}, 33}, {nat{0, 1, 0}, 33}, {nat{top, top}, 64}, {nat{0, 0, 1}, 65}, {full(100), 3200},
	} {
		if got := limbs.Bits(x.a); got != x.want {
			t.Errorf("P1.5: Bits(%v) = %d, want %d", x.a, got, x.want)
		}
	}
	for n := range api.MaxShift + 1 {
		a, _ := limbs.Left(nat{1}, n)
		less, _ := limbs.Sub(a, nat{1})
		if limbs.Bits(a) != n+1 || limbs.Bits(less) != n {
			t.Fatalf("P1.5: Bits of 2^%d and one less: %d, %d", n, limbs.Bits(a), limbs.Bits(less))
		}
	}
}
