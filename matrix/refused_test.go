package matrix_test

import (
	"fmt"
	"math"
	"testing"

	"rafter/api"
	"rafter/matrix"
)

// plain answers a matrix of numbers 1.
func plain(count, cols int) [][]api.Whole {
	out := make([][]api.Whole, count)
	for i := range out {
		for range cols {
			out[i] = append(out[i], api.Whole{Mag: []uint32{1}})
		}
	}
	return out
}

// codes answers what each call says of a matrix, the other arguments being as they must be; all other results must be nothing beside an error.
func codes(t *testing.T, m [][]api.Whole, cols int) map[string]api.Errno {
	t.Helper()
	out := map[string]api.Errno{}
	say := func(name string, nothing bool, e api.Errno) {
		out[name] = e
		if e != api.OK && !nothing {
			t.Errorf("R2: %s has something beside %v", name, e)
		}
	}
	l, e := matrix.Echelon(m, cols)
	say("Echelon", len(l) == 0, e)
	n, e := matrix.Rank(m, cols)
	say("Rank", n == 0, e)
	l, e = matrix.Kernel(m, cols)
	say("Kernel", len(l) == 0, e)
	in, e := matrix.Inside(m, cols, plain(1, min(max(cols, 0), 99))[0])
	say("Inside", !in, e)
	x, ok, e := matrix.Solve(m, cols, plain(1, len(m))[0])
	say("Solve", len(x) == 0 && !ok, e)
	d, e := matrix.Det(m, cols)
	say("Det", !d.Neg && len(d.Mag) == 0, e)
	return out
}

func TestRefused(t *testing.T) { // every call's ErrArg
	var refused []shape
	for _, cols := range []int{-1, -2, api.MaxCols + 1, 1 << 32, math.MinInt, math.MaxInt} {
		refused = append(refused, shape{nil, cols}, shape{plain(1, 1), cols}, shape{plain(2, min(max(cols, 0), 99)), cols})
	}
	refused = append(refused, shape{plain(api.MaxCols+1, api.MaxCols+1), api.MaxCols + 1}, shape{plain(api.MaxRows+1, 2), 2}, shape{make([][]api.Whole, api.MaxRows+1), 0}, shape{plain(1, 1), 0}, shape{make([][]api.Whole, 1), 1})
	for _, count := range []int{1, 2, 3, api.MaxRows} {
		for _, bad := range []int{0, count / 2, count - 1} {
			for _, size := range []int{0, 2, 4} {
				m := plain(count, 3)
				m[bad] = plain(1, size)[0]
				refused = append(refused, shape{m, 3})
			}
		}
	}
	for _, x := range refused {
		for name, e := range codes(t, x.rows, x.cols) {
			if e != api.ErrArg {
				t.Errorf("P6: %s of %d rows, %d columns: %v", name, len(x.rows), x.cols, e)
			}
		}
	}
}

func TestRefusedAheadOfTooBig(t *testing.T) { // ErrArg comes first
	m := append(rows("P 1"), row("1"))
	for name, e := range codes(t, m, 2) {
		if e != api.ErrArg {
			t.Errorf("P6: %s: %v", name, e)
		}
	}
	if _, e := matrix.Det(rows("P 0 0; 0 1 0"), 3); e != api.ErrArg {
		t.Error("P6.7: ", e)
	}
	if _, _, e := matrix.Solve(rows("1"), 1, row("P 1")); e != api.ErrArg {
		t.Error("P6.6: ", e)
	}
}

func TestAtTheLimits(t *testing.T) { // at a limit all is well
	for _, x := range []shape{{nil, 0}, {nil, api.MaxCols}, {plain(api.MaxRows, 1), 1}, {plain(api.MaxRows, api.MaxCols), api.MaxCols}, {make([][]api.Whole, api.MaxRows), 0}, {plain(api.MaxCols, api.MaxCols), api.MaxCols}} {
		for name, e := range codes(t, x.rows, x.cols) {
			want := api.OK
			if name == "Det" && len(x.rows) != x.cols {
				want = api.ErrArg
			}
			if e != want {
				t.Errorf("P6: %s of %d rows, %d columns: %v", name, len(x.rows), x.cols, e)
			}
		}
	}
}

func TestOtherArgumentsRefused(t *testing.T) { // P6.5, P6.6, P6.7
	for count := range 4 {
		for cols := range 4 {
			for size := range 5 {
				m, l := plain(count, cols), plain(1, size)[0]
				what := fmt.Sprintf("%d rows, %d columns, %d numbers", count, cols, size)
				in, e := matrix.Inside(m, cols, l)
				if (e == api.OK) != (size == cols) || e != api.OK && (e != api.ErrArg || in) {
					t.Errorf("P6.5: Inside of %s: %v, %v", what, in, e)
				}
				x, ok, e := matrix.Solve(m, cols, l)
				if (e == api.OK) != (size == count) || e != api.OK && (e != api.ErrArg || ok || len(x) > 0) {
					t.Errorf("P6.6: Solve of %s: %v, %v, %v", what, x, ok, e)
				}
			}
			d, e := matrix.Det(plain(count, cols), cols)
			if (e == api.OK) != (count == cols) || e != api.OK && (e != api.ErrArg || len(d.Mag) > 0) {
				t.Errorf("P6.7: Det of %d rows, %d columns: %v, %v", count, cols, d, e)
			}
		}
	}
	if _, e := matrix.Inside(plain(2, 3), 3, plain(1, api.MaxCols+1)[0]); e != api.ErrArg {
		t.Error("P6.5: ", e)
	}
	if _, _, e := matrix.Solve(plain(2, 3), 3, plain(1, api.MaxRows+1)[0]); e != api.ErrArg {
		t.Error("P6.6: ", e)
	}
}
