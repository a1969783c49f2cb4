package matrix_test

import (
	"fmt"
	"math/big"
	"slices"
	"testing"

	"rafter/api"
	"rafter/matrix"
)

func TestDet(t *testing.T) { // P6.7
	for _, x := range []struct {
		m    string
		cols int
		want string
	}{
		{"2 1; 0 3", 2, "6"}, {"", 0, "1"}, {"1 2; 2 4", 2, "0"}, {"0 1; 1 0", 2, "-1"}, {"0 2 3; 4 5 6; 7 8 10", 3, "-5"}, {"0", 1, "0"}, {"-7", 1, "-7"}, {"0 0; 0 0", 2, "0"}, {"0 1; 0 1", 2, "0"},
		{"0 1 0; 0 0 1; 1 0 0", 3, "1"}, {"0 0 1; 0 1 0; 1 0 0", 3, "-1"}, {"0 1 0 0; 0 0 1 0; 0 0 0 1; 1 0 0 0", 4, "-1"}, {"0 0 0 1; 0 0 1 0; 0 1 0 0; 1 0 0 0", 4, "1"}, {"1 2 3; 4 5 6; 7 8 9", 3, "0"}, {"2 0 0; 0 -3 0; 0 0 5", 3, "-30"},
	} {
		if got, e := matrix.Det(rows(x.m), x.cols); e != api.OK || !equalWhole(got, row(x.want)[0]) {
			t.Errorf("P6.7: Det of %s: %v, %v", x.m, got, e)
		}
	}
}

// expanded answers the determinant along the first row.
func expanded(m [][]api.Whole) *big.Int {
	if len(m) == 0 {
		return big.NewInt(1)
	}
	out := new(big.Int)
	for c, x := range m[0] {
		var rest [][]api.Whole
		for _, l := range m[1:] {
			rest = append(rest, slices.Delete(slices.Clone(l), c, c+1))
		}
		part := new(big.Int).Mul(toBig(x), expanded(rest))
		if c%2 == 1 {
			part.Neg(part)
		}
		out.Add(out, part)
	}
	return out
}

// detIs fails the test if Det does not answer this.
func detIs(t *testing.T, what string, m [][]api.Whole, want *big.Int) {
	t.Helper()
	got, e := matrix.Det(m, len(m))
	if want.CmpAbs(most) > 0 {
		if e != api.ErrTooBig || got.Neg || len(got.Mag) > 0 {
			t.Fatalf("%s: Det of %v: %v, %v", what, m, got, e)
		}
	} else if e != api.OK || !equalWhole(got, wholeOf(want)) {
		t.Fatalf("%s: Det of %v: %v, %v, want %v", what, m, got, e, want)
	}
}

func TestDetPlainly(t *testing.T) { // P6.7
	s := &stream{5}
	for n := range 400 {
		m := s.matrix(n%6, n%6, n%12)
		detIs(t, "P6.7", m, expanded(m))
	}
	for _, size := range []int{10, 15, 20, 32, 32, 32} {
		m := s.matrix(size, size, 1)
		_, want := turnedRows(m, size)
		detIs(t, "P6.7", m, want.Num())
	}
	for size := range 9 { // one number a row and a column, in each order of columns that goes round
		for from := range size {
			m := make([][]api.Whole, size)
			for i := range m {
				m[i] = make([]api.Whole, size)
				m[i][(from+i*5)%size] = row("3")[0]
			}
			_, want := turnedRows(m, size)
			detIs(t, "P6.7", m, want.Num())
		}
	}
}

func TestDetTooBig(t *testing.T) { // P6.7
	for _, x := range []struct {
		m, want string
	}{
		{"M", "M"}, {"-M", "-M"}, {"P", ""}, {"-P", ""}, {"M 5; 0 1", "M"}, {"P 5; 0 1", ""}, {"1 5; 0 -P", ""}, {"0 M; 1 0", "-M"}, {"0 P; 1 0", ""}, {"P 1; P 1", "0"}, {"P P; P P", "0"}, {"P 1; 1 0", "-1"}, {"P M; 1 1", "1"}, {"M P; 1 1", "-1"},
		{"P 1 0; 1 0 0; 0 0 1", "-1"}, {"M 0; 0 2", ""}, {"P 0; 0 0", "0"},
	} {
		got, e := matrix.Det(rows(x.m), len(rows(x.m)))
		if x.want == "" {
			if e != api.ErrTooBig || got.Neg || len(got.Mag) > 0 {
				t.Errorf("P6.7: Det of %s: %v, %v", x.m, got, e)
			}
		} else if e != api.OK || !equalWhole(got, row(x.want)[0]) {
			t.Errorf("P6.7: Det of %s: %v, %v", x.m, got, e)
		}
	}
}

// plus answers m with row to and times row from in its place.
func plus(m [][]api.Whole, to int, times *big.Int, from int) [][]api.Whole {
	out := slices.Clone(m)
	out[to] = nil
	for c, x := range m[to] {
		part := new(big.Int).Mul(times, toBig(m[from][c]))
		out[to] = append(out[to], wholeOf(part.Add(part, toBig(x))))
	}
	return out
}

// times answers m with row i multiplied.
func times(m [][]api.Whole, i int, by *big.Int) [][]api.Whole {
	out := slices.Clone(m)
	out[i] = nil
	for _, x := range m[i] {
		out[i] = append(out[i], wholeOf(new(big.Int).Mul(by, toBig(x))))
	}
	return out
}

func TestDetFollows(t *testing.T) { // P6.10
	s := &stream{6}
	for n := range 300 {
		size := 2 + n%6
		m := s.matrix(size, size, n%4)
		d, e := matrix.Det(m, size)
		if e != api.OK {
			continue
		}
		det := toBig(d)
		if rank, _ := matrix.Rank(m, size); (rank < size) != (det.Sign() == 0) {
			t.Fatalf("P6.10: Det of %v: %v, and the rank %d", m, d, rank)
		}
		i := s.below(size)
		k := (i + 1 + s.below(size-1)) % size
		by := toBig(s.whole(2))
		exchanged := slices.Clone(m)
		exchanged[i], exchanged[k] = exchanged[k], exchanged[i]
		detIs(t, fmt.Sprint("P6.10: rows exchanged: ", i, k), exchanged, new(big.Int).Neg(det))
		detIs(t, fmt.Sprint("P6.10: a row multiplied: ", i, by), times(m, i, by), new(big.Int).Mul(det, by))
		detIs(t, fmt.Sprint("P6.10: a multiple added: ", i, by, k), plus(m, i, by, k), det)
	}
}
