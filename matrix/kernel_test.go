package matrix_test

import (
	"fmt"
	"math/big"
	"slices"
	"testing"

	"rafter/api"
	"rafter/matrix"
)

func TestKernel(t *testing.T) { // P6.4
	for _, x := range []struct {
		m    string
		cols int
		want string
	}{
		{"1 2 0; 0 0 1", 3, "2 -1 0"}, {"", 2, "1 0; 0 1"}, {"", 0, ""}, {"", 1, "1"}, {"0 0", 2, "1 0; 0 1"}, {"1 0; 0 1", 2, ""}, {"2 3 5", 3, "5 0 -2; 0 5 -3"}, {"0 1 0", 3, "1 0 0; 0 0 1"},
		{"1 1 1 1", 4, "1 0 0 -1; 0 1 0 -1; 0 0 1 -1"}, {"1 2; 2 4", 2, "2 -1"}, {"-3 0 6", 3, "2 0 1; 0 1 0"}, {"0 0 7; 0 0 -7", 3, "1 0 0; 0 1 0"}, {"1 1 0; 0 1 1", 3, "1 -1 1"}, {"2 4 2; 1 2 3", 3, "2 -1 0"},
	} {
		got, e := matrix.Kernel(rows(x.m), x.cols)
		same(t, "P6.4: Kernel of "+x.m, got, e, rows(x.want))
	}
}

// kernelOf answers the kernel's echelon form: a row for each column without a pivot, all of them turned once more.
func kernelOf(m [][]api.Whole, cols int) ([][]api.Whole, bool) {
	turned, _ := turnedRows(m, cols)
	pivots := pivotsOf(m, cols)
	var all [][]api.Whole
	for c := range cols {
		if slices.Contains(pivots, c) {
			continue
		}
		times := big.NewInt(1)
		for _, r := range turned {
			times.Mul(times, r[c].Denom())
		}
		l := make([]api.Whole, cols)
		l[c] = wholeOf(times)
		for i, p := range pivots {
			x := new(big.Rat).Mul(turned[i][c], new(big.Rat).SetInt(times))
			l[p] = wholeOf(new(big.Int).Neg(x.Num()))
		}
		all = append(all, l)
	}
	return echelonOf(all, cols)
}

func TestKernelPlainly(t *testing.T) { // P6.4, held against fractions
	for _, x := range some() {
		what := fmt.Sprint("Kernel of ", x)
		want, short := kernelOf(x.rows, x.cols)
		got, e := matrix.Kernel(x.rows, x.cols)
		if !short {
			if e != api.ErrTooBig || len(got) > 0 {
				t.Fatalf("P6.4: %s: %v, %v", what, got, e)
			}
			continue
		}
		same(t, "P6.4: "+what, got, e, want)
		inForm(t, what, got)
	}
}

func TestKernelTooBig(t *testing.T) { // P6.4
	for _, x := range []struct {
		m    string
		cols int
		want string
	}{
		{"1 -M", 2, "M 1"}, {"1 M", 2, "M -1"}, {"1 -P", 2, ""}, {"1 P", 2, ""}, {"M 1", 2, "1 -M"}, {"P 1", 2, ""}, {"P P", 2, "1 -1"}, {"0 P", 2, "1 0"}, {"P 0 -P", 3, "1 0 1; 0 1 0"},
		{"1 1 0; 0 1 P", 3, ""}, {"1 -1 0; 0 1 -M", 3, "M M 1"}, {"M 1 0; 0 M 1", 3, ""}, {"P M; M P", 2, "none"},
	} {
		got, e := matrix.Kernel(rows(x.m), x.cols)
		switch x.want {
		case "":
			if e != api.ErrTooBig || len(got) != 0 {
				t.Errorf("P6.4: Kernel of %s: %v, %v", x.m, got, e)
			}
		case "none":
			same(t, "P6.4: Kernel of "+x.m, got, e, nil)
		default:
			same(t, "P6.4: Kernel of "+x.m, got, e, rows(x.want))
		}
	}
}

func TestInside(t *testing.T) { // P6.5
	for _, x := range []struct {
		m    string
		cols int
		v    string
		want bool
	}{
		{"1 2 0; 0 0 1", 3, "3 6 -1", true}, {"1 2 0; 0 0 1", 3, "1 0 0", false}, {"1 2 0; 0 0 1", 3, "0 0 0", true}, {"", 2, "0 0", true}, {"", 2, "0 1", false}, {"", 0, "", true}, {"0 0", 2, "0 1", false},
		{"2 4", 2, "1 2", true}, {"2 4", 2, "-3 -6", true}, {"2 4", 2, "3 7", false}, {"3 0; 0 5", 2, "1 1", true}, {"P 1", 2, "P 1", true}, {"P 1", 2, "M 1", false}, {"1 P", 2, "0 0", true}, {"0 0 1", 3, "0 1 0", false},
	} {
		if got, e := matrix.Inside(rows(x.m), x.cols, row(x.v)); e != api.OK || got != x.want {
			t.Errorf("P6.5: Inside(%s, %s): %v, %v", x.m, x.v, got, e)
		}
	}
}

func TestInsidePlainly(t *testing.T) { // P6.5, P6.9: v adds nothing to the rank
	s := &stream{3}
	for _, x := range some() {
		near := s.mixed(x.rows, x.cols)
		if x.cols > 0 {
			near[s.below(x.cols)] = s.whole(1)
		}
		for _, v := range [][]api.Whole{s.mixed(x.rows, x.cols), near, s.wholes(x.cols, 3), make([]api.Whole, x.cols)} {
			want := rankOf(append(slices.Clone(x.rows), v), x.cols) == rankOf(x.rows, x.cols)
			if got, e := matrix.Inside(x.rows, x.cols, v); e != api.OK || got != want {
				t.Fatalf("P6.5: Inside(%v, %v): %v, %v", x, v, got, e)
			}
		}
	}
}
