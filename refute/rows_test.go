package refute_test

import (
	"math/big"
	"slices"

	"rafter/api"
	"rafter/ratio"
	"rafter/solver"
	"rafter/span"
)

// rows draws rows over what was found of a point: some that are implied there, some that are nearly so, and others.
func (s *stream) rows(r *solver.Result, point int) [][]api.Whole {
	n := len(r.Graph().Vars())
	out := [][]api.Whole{s.row(n), s.row(n), sum(n, r.Rows(point), s.row)}
	for _, row := range r.Rows(point) {
		out = append(out, row, s.bumped(row))
	}
	samples := r.Samples(point)
	for k := range samples { // those that the first k samples meet: the next one does not meet all of them
		out = append(out, hullRows(n, samples[:k])...)
	}
	return out
}

// row draws a row over n variables.
func (s *stream) row(n int) []api.Whole {
	var out []api.Whole
	for range n + 1 {
		out = append(out, wholeOf(big.NewInt(int64(s.below(7)-3)*int64(s.below(2)))))
	}
	return out
}

// bumped answers a row with one number turned.
func (s *stream) bumped(row []api.Whole) []api.Whole {
	out := slices.Clone(row)
	i := s.below(len(out))
	x := toBig(out[i])
	out[i] = wholeOf(x.Add(x, big.NewInt(int64(1+s.below(3)))))
	return out
}

// sum answers the sum of rows, each times a factor that is drawn: it says no more than they do.
func sum(n int, rows [][]api.Whole, draw func(int) []api.Whole) []api.Whole {
	out := make([]*big.Int, n+1)
	for i := range out {
		out[i] = new(big.Int)
	}
	for _, row := range rows {
		factor := toBig(draw(0)[0])
		for i, x := range row {
			out[i].Add(out[i], new(big.Int).Mul(factor, toBig(x)))
		}
	}
	var told []api.Whole
	for _, x := range out {
		told = append(told, wholeOf(x))
	}
	return told
}

// hullRows answers the rows of the least span that holds the samples; none, if it is too big to be told.
func hullRows(n int, samples []api.Sample) [][]api.Whole {
	points := make([][]api.Ratio, len(samples))
	for i, x := range samples {
		for _, y := range x.State {
			points[i] = append(points[i], ratio.From(y))
		}
	}
	hull, e := span.Points(n, points)
	if e != api.OK {
		return nil
	}
	return hull.Rows()
}
