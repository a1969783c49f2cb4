package matrix_test

import (
	"fmt"
	"math/big"
	"testing"

	"rafter/api"
	"rafter/matrix"
)

// inForm fails the test if a matrix is not in echelon form, as P6.1 says it word by word.
func inForm(t *testing.T, what string, m [][]api.Whole) {
	t.Helper()
	last := -1
	for i, l := range m {
		pivot, common := -1, new(big.Int)
		for c, x := range l {
			if n := toBig(x); n.Sign() != 0 && pivot < 0 {
				pivot = c
			}
			common.GCD(nil, nil, common, new(big.Int).Abs(toBig(x)))
		}
		if pivot <= last || toBig(l[pivot]).Sign() < 0 || common.Cmp(big.NewInt(1)) != 0 {
			t.Fatalf("P6.1: %s: row %d of %v", what, i, m)
		}
		for k, other := range m {
			if k != i && toBig(other[pivot]).Sign() != 0 {
				t.Fatalf("P6.1: %s: the column of row %d's pivot of %v", what, i, m)
			}
		}
		last = pivot
	}
}

func TestEchelon(t *testing.T) { // P6.2, P6.3
	for _, x := range []struct {
		m    string
		cols int
		want string
	}{
		{"2 4 2; 1 2 3", 3, "1 2 0; 0 0 1"}, {"0 0", 2, ""}, {"", 3, ""}, {"", 0, ""}, {"-2 4", 2, "1 -2"}, {"-7", 1, "1"}, {"0", 1, ""}, {"6; 4", 1, "1"}, {"0 -6 4", 3, "0 3 -2"},
		{"0 2 4; 3 0 6; 3 2 10", 3, "1 0 2; 0 1 2"}, {"6 4; 4 6", 2, "1 0; 0 1"}, {"2 3 5; 4 1 7", 3, "5 0 8; 0 5 3"}, {"0 0 1; 0 1 0; 1 0 0", 3, "1 0 0; 0 1 0; 0 0 1"},
		{"1 2 3; 0 0 0; 1 2 3; 2 4 6", 3, "1 2 3"}, {"0 0 2 1; 0 3 1 0", 4, "0 6 0 -1; 0 0 2 1"}, {"1 1; 1 -1; 5 7", 2, "1 0; 0 1"}, {"2 1 0; 0 2 1", 3, "4 0 -1; 0 2 1"}, {"4294967296 4294967295", 2, "4294967296 4294967295"},
	} {
		got, e := matrix.Echelon(rows(x.m), x.cols)
		same(t, "P6.2: Echelon of "+x.m, got, e, rows(x.want))
		if n, e := matrix.Rank(rows(x.m), x.cols); e != api.OK || n != len(rows(x.want)) {
			t.Errorf("P6.3: Rank of %s: %d, %v", x.m, n, e)
		}
	}
}

func TestEchelonPlainly(t *testing.T) { // P6.1, P6.2, P6.3, held against fractions
	for _, x := range some() {
		what := fmt.Sprint("Echelon of ", x)
		want, short := echelonOf(x.rows, x.cols)
		got, e := matrix.Echelon(x.rows, x.cols)
		if short {
			same(t, "P6.2: "+what, got, e, want)
			inForm(t, what, got)
		} else if e != api.ErrTooBig || len(got) > 0 {
			t.Fatalf("P6.2: %s: %v, %v", what, got, e)
		}
		if n, e := matrix.Rank(x.rows, x.cols); e != api.OK || n != len(want) {
			t.Fatalf("P6.3: Rank of %v: %d, %v, want %d", x, n, e, len(want))
		}
	}
}

func TestEchelonTooBig(t *testing.T) { // P6.2, P6.3
	for _, x := range []struct {
		m    string
		cols int
		big  bool
	}{
		{"M 1", 2, false}, {"P 1", 2, true}, {"1 M", 2, false}, {"1 P", 2, true}, {"1 -M", 2, false}, {"1 -P", 2, true}, {"-1 P", 2, true}, {"-M 1", 2, false}, {"-P 1", 2, true},
		{"P", 1, false}, {"P P", 2, false}, {"0 P; P 0", 2, false}, {"P P; 0 P", 2, false}, {"P 1; 1 P", 2, false}, {"P M; M P", 2, false},
		{"1 0 0 1; 0 1 0 P; 0 0 1 1", 4, true}, {"1 0 P; 0 1 1", 3, true}, {"1 0 1; 0 1 P", 3, true}, {"1 0 M; 0 1 -M", 3, false}, {"1 0 1; 0 P 1", 3, true}, {"1 0 1; 0 M 1", 3, false},
		{"M 1 0; 0 M 1", 3, true}, {"M M 0; 0 M M", 3, false}, {"P 0 P; 0 P -P", 3, false}, {"1 P; 0 1", 2, false}, {"1 P 0; 0 1 0", 3, false}, {"1 P 1; 0 1 1", 3, false}, {"1 P 1; 0 1 2", 3, true},
	} {
		want, short := echelonOf(rows(x.m), x.cols)
		if short == x.big {
			t.Fatalf("the test's own table is wrong: %s", x.m)
		}
		got, e := matrix.Echelon(rows(x.m), x.cols)
		if x.big {
			if e != api.ErrTooBig || len(got) != 0 {
				t.Errorf("P6.2: Echelon of %s: %v, %v", x.m, got, e)
			}
		} else {
			same(t, "P6.2: Echelon of "+x.m, got, e, want)
		}
		if n, e := matrix.Rank(rows(x.m), x.cols); e != api.OK || n != len(want) {
			t.Errorf("P6.3: Rank of %s: %d, %v", x.m, n, e)
		}
	}
}

func TestLongOnTheWay(t *testing.T) { // P6.2: rows of long numbers whose echelon form is short
	s := &stream{2}
	for n := range 12 {
		count, cols := 2+n%4, 3+n%5
		short := s.matrix(count, cols, 0)
		var long [][]api.Whole
		for range count + 2 {
			long = append(long, make([]api.Whole, cols))
			sum := long[len(long)-1]
			for _, l := range short {
				times := toBig(s.long(40))
				for c, x := range l {
					sum[c] = wholeOf(new(big.Int).Add(toBig(sum[c]), new(big.Int).Mul(times, toBig(x))))
				}
			}
		}
		want, _ := echelonOf(short, cols)
		got, e := matrix.Echelon(long, cols)
		same(t, fmt.Sprint("P6.2: long multiples of ", short), got, e, want)
	}
}

// long answers a number of n limbs.
func (s *stream) long(n int) api.Whole {
	x := api.Whole{Neg: s.below(2) == 0, Mag: make([]uint32, n)}
	for i := range x.Mag {
		x.Mag[i] = s.next()
	}
	x.Mag[n-1] |= 1
	return x
}
