package span_test

import (
	"fmt"
	"math/big"
	"testing"

	"rafter/api"
	"rafter/span"
)

func TestExamplesTold(t *testing.T) { // P7.1, P7.2, P7.3, P7.5: those of the chapter, and edges
	for _, x := range []struct {
		n                   int
		points              string
		rows, base, steps   string
		dim                 int
		without, withoutToo string // rows that say the same
	}{
		{2, "0 0; 1 2; 2 4", "2 -1 0", "0 0", "1 2", 1, "-4 2 0", "2 -1 0; 0 0 0; 6 -3 0"},
		{2, "1 1/2", "1 0 1; 0 2 1", "1 1/2", "", 0, "1 2 2; 1 -2 0", "0 4 2; 3 0 3; 1 1 3/2"},
		{2, "", "0 0 1", "none", "", -1, "0 0 -7", "1 1 1; 1 1 2"},
		{2, "0 0; 1 0; 0 1", "", "0 0", "1 0; 0 1", 2, "", "0 0 0"},
		{2, "0 1; 1 0", "1 1 1", "0 1", "1 -1", 1, "2 2 2", "-3 -3 -3"},
		{0, "", "1", "none", "", -1, "5", "0; -1"},
		{1, "", "0 1", "none", "", -1, "1 2; 1 3", "0 1"},
		{1, "-3/2", "2 -3", "-3/2", "", 0, "-4 6", "2 -3; 4 -6"},
		{1, "7; 7; 8", "", "0", "1", 1, "0 0", ""},
		{3, "1 0 5; 1 2 5", "1 0 0 1; 0 0 1 5", "1 0 5", "0 1 0", 1, "1 0 1 6; 1 0 -1 -4", "0 0 2 10; 3 0 0 3"},
		{3, "0 0 0; 2 4 0; 0 0 3", "2 -1 0 0", "0 0 0", "1 2 0; 0 0 1", 2, "2 -1 0 0", "-2 1 0 0"},
		{3, "1/2 1/3 1/5", "2 0 0 1; 0 3 0 1; 0 0 5 1", "1/2 1/3 1/5", "", 0, "2 3 0 2; 2 -3 0 0; 0 0 -5 -1", "2 0 0 1; 0 3 0 1; 0 0 5 1; 2 3 5 3"},
		{3, "0 1 1/2; 1 0 1/2", "1 1 0 1; 0 0 2 1", "0 1 1/2", "1 -1 0", 1, "1 1 2 2; 1 1 -2 0", "2 2 0 2; 0 0 6 3"},
	} {
		var all []*span.Span
		all = append(all, byPoints(t, x.n, x.points))
		for _, rows := range []string{x.without, x.withoutToo} {
			if x.n > 0 || rows != "" {
				all = append(all, ok(t)(span.Rows(x.n, wholes(rows))))
			}
		}
		for i, s := range all {
			what := fmt.Sprint("P7.2, P7.3, P7.5: ", x.n, " variables, points ", x.points, ", way ", i)
			told(t, what, s, x.rows, x.base, x.steps)
			if s.Dim() != x.dim || s.Vars() != x.n {
				t.Errorf("P7.1: %s: dimension %d of %d", what, s.Dim(), s.Vars())
			}
		}
	}
	told(t, "P7.2, P7.3: no variable", ok(t)(span.All(0)), "", "", "")
	told(t, "P7.5: no variable, a point", ok(t)(span.Points(0, [][]api.Ratio{nil, {}})), "", "", "")
	told(t, "P7.5: no variable, 0 = 0", byRows(t, 0, "0"), "", "", "")
}

// wholes answers rows of a text, each one multiplied by 2 where it has a half.
func wholes(s string) [][]api.Whole {
	var out [][]api.Whole
	for _, l := range several(s, rats) {
		var r []api.Whole
		for _, x := range l {
			r = append(r, wholeOf(new(big.Rat).Mul(x, big.NewRat(2, 1)).Num()))
		}
		out = append(out, r)
	}
	return out
}

func TestEmptyAndAll(t *testing.T) { // P7.1, P7.2, P7.3, P7.5
	for n := range 2*api.MaxVars + 1 {
		none, e := span.Empty(n)
		like(t, fmt.Sprint("P7.5: Empty of ", n), none, e, flat{n: n})
		if none.Dim() != -1 || len(none.Rows()) != 1 || len(none.Rows()[0]) != n+1 {
			t.Errorf("P7.1, P7.2: Empty of %d: %d, %v", n, none.Dim(), none.Rows())
		}
		full, e := span.All(n)
		like(t, fmt.Sprint("P7.5: All of ", n), full, e, solved(n, nil))
		if full.Dim() != n || len(full.Rows()) != 0 || len(full.Steps()) != n {
			t.Errorf("P7.1, P7.2: All of %d: %d, %v, %v", n, full.Dim(), full.Rows(), full.Steps())
		}
		one, e := span.Points(n, [][]api.Ratio{make([]api.Ratio, n)})
		like(t, fmt.Sprint("P7.5: 0 of ", n), one, e, hull(n, toRats([][]api.Ratio{make([]api.Ratio, n)}, toRat)))
		if one.Dim() != 0 {
			t.Errorf("P7.1: a point of %d: %d", n, one.Dim())
		}
	}
}

func TestPointsPlainly(t *testing.T) { // P7.1 to P7.5, held against the model
	s := &stream{1}
	for n := range 7 {
		for count := range n + 4 {
			for limbs := range 6 {
				points := s.points(count, n, limbs)
				got, e := span.Points(n, points)
				like(t, fmt.Sprint("P7.5: Points of ", points), got, e, hull(n, toRats(points, toRat)))
			}
		}
	}
}

func TestRowsPlainly(t *testing.T) { // P7.1 to P7.5, held against the model
	s := &stream{2}
	for n := range 7 {
		for count := range n + 4 {
			for limbs := range 6 {
				rows := s.rows(count, n, limbs)
				got, e := span.Rows(n, rows)
				like(t, fmt.Sprint("P7.5: Rows of ", rows), got, e, solved(n, toRats(rows, wholeRat)))
			}
		}
	}
}

func TestAtTheLimits(t *testing.T) { // P7.5: as many variables, points and rows as there may be
	s := &stream{3}
	n := 2 * api.MaxVars
	for _, count := range []int{3, n - 1, n, n + 1, api.MaxRows} {
		points := s.points(count, n, 0)
		got, e := span.Points(n, points)
		like(t, fmt.Sprint("P7.5: many points: ", count), got, e, hull(n, toRats(points, toRat)))
		rows := s.rows(count, n, 0)
		got, e = span.Rows(n, rows)
		like(t, fmt.Sprint("P7.5: many rows: ", count), got, e, solved(n, toRats(rows, wholeRat)))
	}
	for _, count := range []int{1, 2, api.MaxRows} {
		got, e := span.Points(0, make([][]api.Ratio, count))
		like(t, "P7.5: points of no number", got, e, solved(0, nil))
	}
}
