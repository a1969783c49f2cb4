package matrix_test

import (
	"fmt"
	"math/big"
	"slices"
	"testing"

	"rafter/api"
	"rafter/matrix"
)

// shuffled answers rows in another order.
func (s *stream) shuffled(m [][]api.Whole) [][]api.Whole {
	out := slices.Clone(m)
	for i := range out {
		k := s.below(i + 1)
		out[i], out[k] = out[k], out[i]
	}
	return out
}

// other answers a number other than 0.
func (s *stream) other() *big.Int {
	x := toBig(s.whole(3))
	if x.Sign() == 0 {
		x.SetInt64(-6)
	}
	return x
}

func TestRowSpaceAlone(t *testing.T) { // P6.8
	s := &stream{7}
	for _, x := range some() {
		want, e := matrix.Echelon(x.rows, x.cols)
		if e != api.OK {
			continue
		}
		for range 3 {
			m := s.shuffled(x.rows)
			if len(m) > 0 {
				m = times(m, s.below(len(m)), s.other())
			}
			if len(m) > 1 {
				m = plus(m, 0, toBig(s.whole(2)), 1)
			}
			if len(m) < api.MaxRows {
				m = append(m, s.mixed(x.rows, x.cols))
			}
			m = s.shuffled(m)
			got, e := matrix.Echelon(m, x.cols)
			same(t, fmt.Sprint("P6.8: rows of the same row space as ", x.rows, ": ", m), got, e, want)
		}
		again, e := matrix.Echelon(want, x.cols)
		same(t, fmt.Sprint("P6.8: Echelon of Echelon of ", x.rows), again, e, want)
	}
}

func TestEveryOrder(t *testing.T) { // P6.8: all orders of rows with pivots in each order of columns
	m := rows("1 0 2 0 3; 0 2 1 0 5; 0 0 3 1 1; 2 4 9 2 18")
	want, _ := echelonOf(m, 5)
	var orders func(n int, then func())
	orders = func(n int, then func()) {
		if n == 0 {
			then()
		}
		for i := range n {
			m[i], m[n-1] = m[n-1], m[i]
			orders(n-1, then)
			m[i], m[n-1] = m[n-1], m[i]
		}
	}
	orders(len(m), func() {
		got, e := matrix.Echelon(m, 5)
		same(t, fmt.Sprint("P6.8: the order ", m), got, e, want)
	})
}

func TestOneForm(t *testing.T) { // P6.1, P6.8: two of other row spaces are not the same
	s := &stream{8}
	for range 300 {
		cols := 2 + s.below(3)
		a, b := s.matrix(1+s.below(3), cols, 0), s.matrix(1+s.below(3), cols, 0)
		formA, _ := matrix.Echelon(a, cols)
		formB, _ := matrix.Echelon(b, cols)
		both := rankOf(append(slices.Clone(a), b...), cols)
		one := both == rankOf(a, cols) && both == rankOf(b, cols)
		if equal(formA, formB) != one {
			t.Fatalf("P6.1: %v of %v, %v of %v", formA, a, formB, b)
		}
	}
}

func TestKernelFollows(t *testing.T) { // P6.9
	s := &stream{9}
	for _, x := range some() {
		kernel, e := matrix.Kernel(x.rows, x.cols)
		rank, _ := matrix.Rank(x.rows, x.cols)
		if e != api.OK {
			continue
		}
		if rank+len(kernel) != x.cols {
			t.Fatalf("P6.9: rank %d and %d rows of the kernel, of %v", rank, len(kernel), x)
		}
		for _, l := range x.rows {
			for _, k := range kernel {
				if makes(l, k).Sign() != 0 {
					t.Fatalf("P6.9: %v and %v, of %v", l, k, x)
				}
			}
		}
		if want, e := matrix.Echelon(x.rows, x.cols); e == api.OK {
			got, e := matrix.Kernel(kernel, x.cols)
			same(t, fmt.Sprint("P6.9: Kernel of Kernel of ", x), got, e, want)
		}
		for _, v := range [][]api.Whole{s.mixed(x.rows, x.cols), s.wholes(x.cols, 2), make([]api.Whole, x.cols)} {
			in, e := matrix.Inside(x.rows, x.cols, v)
			across := !slices.ContainsFunc(kernel, func(k []api.Whole) bool { return makes(k, v).Sign() != 0 })
			if e != api.OK || in != across {
				t.Fatalf("P6.9: Inside(%v, %v): %v, %v", x, v, in, e)
			}
			if len(x.rows) < api.MaxRows {
				more, _ := matrix.Rank(append(slices.Clone(x.rows), v), x.cols)
				if in != (more == rank) {
					t.Fatalf("P6.9: Inside(%v, %v): %v, and the ranks %d, %d", x, v, in, rank, more)
				}
			}
		}
	}
}

func TestSolveFollows(t *testing.T) { // P6.11
	s := &stream{10}
	for _, x := range some() {
		if x.cols == api.MaxCols {
			continue
		}
		right := s.wholes(len(x.rows), 1)
		var wide [][]api.Whole
		for i, l := range x.rows {
			wide = append(wide, append(slices.Clone(l), right[i]))
		}
		rank, _ := matrix.Rank(x.rows, x.cols)
		more, _ := matrix.Rank(wide, x.cols+1)
		if _, ok, e := matrix.Solve(x.rows, x.cols, right); e == api.OK && ok != (rank == more) {
			t.Fatalf("P6.11: Solve(%v, %v): %v, and the ranks %d, %d", x, right, ok, rank, more)
		}
	}
}
