package affine_test

import (
	"fmt"
	"math"
	"math/big"
	"testing"

	"rafter/affine"
	"rafter/api"
)

func TestLeftAndValue(t *testing.T) { // P5.5
	for _, x := range []struct{ row, state, left, value string }{
		{"1 -2 | -3", "1 2", "0", "-6"}, {"2 0 5", "1 9", "-3", "7"}, {"7", "", "-7", "7"}, {"0", "", "0", "0"}, {"-7", "", "7", "-7"}, {"0 0 | 1", "5 6", "-1", "1"}, {"1 1 | 0", "3 -3", "0", "0"}, {"3 | 4", "-5", "-19", "-11"},
		{"4294967295 1", "4294967295", "18446744065119617024", "18446744065119617026"},
	} {
		if got, e := affine.Left(row(x.row), row(x.state)); e != api.OK || !equalWhole(got, row(x.left)[0]) {
			t.Errorf("P5.5: Left(%s at %s) = %v, %v", x.row, x.state, got, e)
		}
		if got, e := affine.Value(row(x.row), row(x.state)); e != api.OK || !equalWhole(got, row(x.value)[0]) {
			t.Errorf("P5.5: Value(%s at %s) = %v, %v", x.row, x.state, got, e)
		}
	}
}

func TestReckonedPlainly(t *testing.T) { // P5.5, held against plain numbers; none of them is too long
	s := &stream{11}
	for n := range 3000 {
		f, state := s.wholes(1+n%20, n%60), s.wholes(n%20, n%60)
		sum := new(big.Int)
		for i, x := range state {
			sum.Add(sum, new(big.Int).Mul(toBig(f[i]), toBig(x)))
		}
		last := toBig(f[len(state)])
		left, e := affine.Left(f, state)
		if want := wholeOf(new(big.Int).Sub(sum, last)); e != api.OK || !equalWhole(left, want) {
			t.Fatalf("P5.5: Left(%v, %v) = %v, %v", f, state, left, e)
		}
		value, e := affine.Value(f, state)
		if want := wholeOf(new(big.Int).Add(sum, last)); e != api.OK || !equalWhole(value, want) {
			t.Fatalf("P5.5: Value(%v, %v) = %v, %v", f, state, value, e)
		}
	}
}

func TestReckonedRefused(t *testing.T) { // P5.5
	zero := api.Whole{}
	for _, x := range []struct{ row, state string }{{"", ""}, {"", "1"}, {"1", "1"}, {"1 2", ""}, {"1 2", "1 2"}, {"1 2 3", "1"}, {"1 2 3", "1 2 3"}, {"1 2 3", ""}} {
		if got, e := affine.Left(row(x.row), row(x.state)); e != api.ErrArg || !equalWhole(got, zero) {
			t.Errorf("P5.5: Left(%s at %s) = %v, %v", x.row, x.state, got, e)
		}
		if got, e := affine.Value(row(x.row), row(x.state)); e != api.ErrArg || !equalWhole(got, zero) {
			t.Errorf("P5.5: Value(%s at %s) = %v, %v", x.row, x.state, got, e)
		}
	}
}

func TestPut(t *testing.T) { // P5.6
	for _, x := range []struct {
		row  string
		v    int
		f    string
		want string
	}{
		{"1 1 | 4", 1, "3 0 2", "4 0 2"}, {"1 1 | 4", 0, "3 0 2", "3 1 2"}, {"1 1 | 4", 0, "0 0 0", "0 1 4"}, {"0 1 | 4", 0, "3 5 7", "0 1 4"}, {"2 4 | 6", 0, "1 0 0", "2 4 6"}, {"2 4 | 6", 1, "0 1 0", "2 4 6"},
		{"-2 4 | 6", 0, "1 -2 3", "-2 8 12"}, {"1 -2 | 3", 1, "1 1 -1", "-1 -2 1"}, {"5 | 7", 0, "2 -3", "10 22"}, {"2 2 | 2", 0, "2 2 2", "4 6 -2"}, {"1 2 3 | 4", 2, "5 6 7 8", "16 20 21 -20"}, {"0 0 | 0", 1, "1 2 3", "0 0 0"},
	} {
		got, e := affine.Put(row(x.row), x.v, row(x.f))
		if e != api.OK {
			t.Fatalf("P5.6: Put(%s, %d, %s): %v", x.row, x.v, x.f, e)
		}
		same(t, fmt.Sprintf("P5.6: Put(%s, %d, %s)", x.row, x.v, x.f), got, row(x.want))
	}
}

func TestPutPlainly(t *testing.T) { // P5.6, held against plain numbers; none of them is too long
	s := &stream{12}
	for n := range 2000 {
		count := 2 + n%18
		given, f, v := s.wholes(count, n%50), s.wholes(count, n%50), s.below(count-1)
		var want []api.Whole
		for i := range count {
			x := new(big.Int).Mul(toBig(given[v]), toBig(f[i]))
			switch {
			case i == count-1:
				x.Sub(toBig(given[i]), x)
			case i != v:
				x.Add(x, toBig(given[i]))
			}
			want = append(want, wholeOf(x))
		}
		got, e := affine.Put(given, v, f)
		if e != api.OK {
			t.Fatalf("P5.6: Put(%v, %d, %v): %v", given, v, f, e)
		}
		same(t, fmt.Sprintf("P5.6: Put(%v, %d, %v)", given, v, f), got, want)
	}
}

func TestPutRefused(t *testing.T) { // P5.6
	for _, x := range []struct {
		row string
		v   int
		f   string
	}{
		{"", 0, ""}, {"", -1, ""}, {"", 0, "1"}, {"4", 0, "3"}, {"4", -1, "3"}, {"1 1 4", 1, "3 0"}, {"1 1 4", 1, "3 0 2 1"}, {"1 1 4", 1, ""}, {"1 1 4", -1, "3 0 2"}, {"1 1 4", 2, "3 0 2"}, {"1 1 4", 3, "3 0 2"},
		{"1 1 4", math.MaxInt, "3 0 2"}, {"1 1 4", math.MinInt, "3 0 2"}, {"1 1 4", 1 << 32, "3 0 2"}, {"", math.MaxInt, ""}, {"", math.MinInt, ""},
	} {
		if got, e := affine.Put(row(x.row), x.v, row(x.f)); e != api.ErrArg || len(got) != 0 {
			t.Errorf("P5.6: Put(%s, %d, %s) = %v, %v", x.row, x.v, x.f, got, e)
		}
	}
}
