package whole_test

import (
	"fmt"
	"math"
	"math/big"
	"testing"

	"rafter/api"
	"rafter/whole"
)

func TestOf(t *testing.T) { // P2.1
	for _, n := range []int{0, 1, -1, 7, -7, 1<<31 - 1, 1 << 31, 1<<32 - 1, 1 << 32, -1 << 32, -1<<32 + 1, math.MaxInt, math.MinInt, math.MinInt + 1} {
		value(t, fmt.Sprint("P2.1: Of ", n), whole.Of(n), big.NewInt(int64(n)))
		if back, ok := whole.Int(whole.Of(n)); back != n || !ok {
			t.Errorf("P2.1: Int(Of(%d)) = %d, %v", n, back, ok)
		}
	}
}

func TestInt(t *testing.T) { // P2.1
	for _, x := range some() {
		want := toBig(x)
		got, ok := whole.Int(x)
		if ok != want.IsInt64() || ok && int64(got) != want.Int64() || !ok && got != 0 {
			t.Errorf("P2.1: Int(%v) = %d, %v, want %v", x, got, ok, want)
		}
	}
	for _, s := range []string{"9223372036854775808", "-9223372036854775809", "18446744073709551615", "-18446744073709551615", "18446744073709551616", "-18446744073709551616", "18446744073709551617"} {
		if got, ok := whole.Int(num(s)); got != 0 || ok {
			t.Errorf("P2.1: Int(%s) = %d, %v", s, got, ok)
		}
	}
	for s, want := range map[string]int{"9223372036854775807": math.MaxInt, "-9223372036854775808": math.MinInt, "-9223372036854775807": -math.MaxInt} {
		if got, ok := whole.Int(num(s)); got != want || !ok {
			t.Errorf("P2.1: Int(%s) = %d, %v", s, got, ok)
		}
	}
}

func TestTrimSignLimbs(t *testing.T) { // P2.1
	for _, x := range some() {
		want := toBig(x)
		value(t, fmt.Sprint("P2.1: Trim ", x), whole.Trim(x), want)
		if got := whole.Sign(x); got != want.Sign() {
			t.Errorf("P2.1: Sign(%v) = %d", x, got)
		}
		if got := whole.Limbs(x); got != len(fromBig(want).Mag) {
			t.Errorf("P2.1: Limbs(%v) = %d", x, got)
		}
	}
	for n := range 40 {
		for _, on := range []uint32{1, 1 << 31, top} {
			mag := append(make([]uint32, n), on, 0, 0)
			if got := whole.Limbs(api.Whole{Neg: true, Mag: mag}); got != n+1 {
				t.Errorf("P2.1: Limbs(%v) = %d", mag, got)
			}
		}
	}
}

func TestCmp(t *testing.T) { // P2.1
	for _, x := range some() {
		for _, y := range some() {
			if got := whole.Cmp(x, y); got != toBig(x).Cmp(toBig(y)) {
				t.Errorf("P2.1: Cmp(%v, %v) = %d", x, y, got)
			}
		}
	}
}

// sums holds the sums and the product of x and y against plain numbers.
func sums(t *testing.T, x, y api.Whole) {
	t.Helper()
	what := fmt.Sprint(" of ", x, y)
	a, b := toBig(x), toBig(y)
	value(t, "P2.2: Neg"+what, whole.Neg(x), new(big.Int).Neg(a))
	value(t, "P2.2: Add"+what, whole.Add(x, y), new(big.Int).Add(a, b))
	value(t, "P2.2: Sub"+what, whole.Sub(x, y), new(big.Int).Sub(a, b))
	value(t, "P2.2: Mul"+what, whole.Mul(x, y), new(big.Int).Mul(a, b))
	value(t, "P2.2: Sum"+what, whole.Sum(x, y), new(big.Int).Add(a, b))
	value(t, "P2.4: Gcd"+what, whole.Gcd(x, y), new(big.Int).GCD(nil, nil, new(big.Int).Abs(a), new(big.Int).Abs(b)))
}

func TestSums(t *testing.T) { // P2.2, P2.4
	for _, x := range some() {
		for _, y := range some() {
			sums(t, x, y)
		}
	}
	s := &stream{2}
	for range 3000 {
		sums(t, s.upTo(20), s.upTo(20))
	}
}

func TestSum(t *testing.T) { // P2.2
	same(t, "P2.2: Sum of none", whole.Sum(), api.Whole{})
	same(t, "P2.2: Sum of an empty list", whole.Sum([]api.Whole{}...), api.Whole{})
	same(t, "P2.2: Sum of a sign of 0", whole.Sum(api.Whole{Neg: true, Mag: []uint32{0}}), api.Whole{})
	same(t, "P2.2: Sum of one", whole.Sum(num("-7")), num("-7"))
	same(t, "P2.2: Sum to 0", whole.Sum(num("1"), num("-3"), num("2")), api.Whole{})
	s := &stream{3}
	for n := range 50 {
		want := new(big.Int)
		var l []api.Whole
		for range n {
			l = append(l, s.upTo(8))
			want.Add(want, toBig(l[len(l)-1]))
		}
		value(t, fmt.Sprint("P2.2: Sum ", l), whole.Sum(l...), want)
	}
}

func TestGcdNeverBelow(t *testing.T) { // P2.4
	for _, x := range []struct{ x, y, want string }{
		{"-12", "18", "6"}, {"12", "-18", "6"}, {"-12", "-18", "6"}, {"0", "0", "0"}, {"-7", "0", "7"}, {"0", "-7", "7"}, {"-1", "-1", "1"}, {"-18446744073709551616", "-4294967296", "4294967296"},
	} {
		same(t, fmt.Sprint("P2.4: Gcd ", x.x, x.y), whole.Gcd(num(x.x), num(x.y)), num(x.want))
	}
}
