package span_test

import (
	"fmt"
	"math"
	"testing"

	"rafter/api"
	"rafter/span"
)

// refused fails the test if a call that makes a span does not answer ErrArg alone.
func refused(t *testing.T, what string, s *span.Span, e api.Errno) {
	t.Helper()
	if s != nil || e != api.ErrArg {
		t.Errorf("%s: %v, %v", what, s != nil, e)
	}
}

// plain answers lists of 0, count of them.
func plain[T any](count, size int) [][]T {
	out := make([][]T, count)
	for i := range out {
		out[i] = make([]T, size)
	}
	return out
}

func TestVarsRefused(t *testing.T) { // P7.5
	for _, n := range []int{-1, -2, 2*api.MaxVars + 1, 64, 1 << 32, math.MinInt, math.MaxInt, math.MaxInt - 1} {
		what := fmt.Sprint("P7.5: variables: ", n)
		s, e := span.Empty(n)
		refused(t, what, s, e)
		s, e = span.All(n)
		refused(t, what, s, e)
		for _, count := range []int{0, 1, api.MaxRows + 1} {
			for _, size := range []int{0, 1, 17, 18} {
				s, e = span.Points(n, plain[api.Ratio](count, size))
				refused(t, what, s, e)
				s, e = span.Rows(n, plain[api.Whole](count, size))
				refused(t, what, s, e)
			}
		}
	}
}

func TestListsRefused(t *testing.T) { // P7.5: too many, and one of another length wherever it stands
	for _, n := range []int{0, 1, 2, 5, 2 * api.MaxVars} {
		s, e := span.Points(n, plain[api.Ratio](api.MaxRows+1, n))
		refused(t, "P7.5: too many points", s, e)
		s, e = span.Rows(n, plain[api.Whole](api.MaxRows+1, n+1))
		refused(t, "P7.5: too many rows", s, e)
		for _, count := range []int{1, 2, 3, api.MaxRows} {
			for _, bad := range []int{0, count / 2, count - 1} {
				for _, size := range []int{0, n - 1, n, n + 1, n + 2, 40} {
					if size < 0 {
						continue
					}
					points, rows := plain[api.Ratio](count, n), plain[api.Whole](count, n+1)
					points[bad], rows[bad] = make([]api.Ratio, size), make([]api.Whole, size)
					what := fmt.Sprint("P7.5: ", n, " variables, ", count, " lists, one of ", size)
					if s, e := span.Points(n, points); size != n {
						refused(t, what, s, e)
					} else if e != api.OK {
						t.Error(what, ": ", e)
					}
					if s, e := span.Rows(n, rows); size != n+1 {
						refused(t, what, s, e)
					} else if e != api.OK {
						t.Error(what, ": ", e)
					}
				}
			}
		}
	}
}

func TestRefusedAheadOfTooBig(t *testing.T) { // R2
	s, e := span.Points(1, append(several("P", point), point("1 2")))
	refused(t, "P7.5: a point too big, and one too long", s, e)
	s, e = span.Rows(1, append(several("1 P", row), row("1")))
	refused(t, "P7.5: a row too big, and one too short", s, e)
	far := byPoints(t, 1, "M")
	s, e = far.Set(1, row("P 0"))
	refused(t, "P7.9: no such variable, and too big", s, e)
	s, e = far.Before(0, row("P 0 0"))
	refused(t, "P7.9: a long form, and too big", s, e)
}

func TestOthersRefused(t *testing.T) { // P7.6, P7.7: nil, another n, and what no call has answered
	for n := range 4 {
		for _, s := range []*span.Span{ok(t)(span.All(n)), ok(t)(span.Empty(n)), ok(t)(span.Points(n, plain[api.Ratio](1, n)))} {
			others := []*span.Span{nil, {}, ok(t)(span.All(n + 1)), ok(t)(span.Empty(n + 1)), ok(t)(span.All(16))}
			if n > 0 {
				others = append(others, ok(t)(span.All(n-1)), ok(t)(span.Empty(0)))
			}
			for i, o := range others {
				what := fmt.Sprint("P7.6, P7.7: ", n, " variables, other ", i)
				one, e := s.Join(o)
				refused(t, what, one, e)
				one, e = s.Meet(o)
				refused(t, what, one, e)
				if in, e := s.Within(o); in || e != api.ErrArg {
					t.Error(what, ": Within: ", in, e)
				}
				if s.Same(o) {
					t.Error(what, ": Same")
				}
			}
		}
	}
}

func TestQuestionsRefused(t *testing.T) { // P7.7
	for n := range 4 {
		for _, s := range []*span.Span{ok(t)(span.All(n)), ok(t)(span.Empty(n)), ok(t)(span.Points(n, plain[api.Ratio](1, n)))} {
			for size := range 20 {
				in, e := s.Has(make([]api.Ratio, size))
				if (e == api.OK) != (size == n) || e != api.OK && (e != api.ErrArg || in) {
					t.Errorf("P7.7: %d variables: Has of %d numbers: %v, %v", n, size, in, e)
				}
				in, e = s.Holds(make([]api.Whole, size))
				if (e == api.OK) != (size == n+1) || e != api.OK && (e != api.ErrArg || in) {
					t.Errorf("P7.7: %d variables: Holds of %d numbers: %v, %v", n, size, in, e)
				}
			}
		}
	}
}

func TestMovesRefused(t *testing.T) { // P7.9
	for n := range 4 {
		for _, s := range []*span.Span{ok(t)(span.All(n)), ok(t)(span.Empty(n)), ok(t)(span.Points(n, plain[api.Ratio](1, n)))} {
			for _, v := range []int{-1, 0, 1, 2, 3, 4, 16, 17, math.MinInt, math.MaxInt} {
				there := v >= 0 && v < n
				for size := range 7 {
					f := make([]api.Whole, size)
					what := fmt.Sprint("P7.9: ", n, " variables, variable ", v, ", a form of ", size)
					for name, move := range map[string]func(int, []api.Whole) (*span.Span, api.Errno){"Set": s.Set, "Before": s.Before} {
						if one, e := move(v, f); !there || size != n+1 {
							refused(t, what+": "+name, one, e)
						} else if one == nil || e != api.OK {
							t.Error(what, ": ", name, ": ", e)
						}
					}
				}
				for name, move := range map[string]func(int) (*span.Span, api.Errno){"Any": s.Any, "Every": s.Every} {
					if one, e := move(v); !there {
						refused(t, fmt.Sprint("P7.9: ", name, " of variable ", v, " of ", n), one, e)
					} else if one == nil || e != api.OK {
						t.Error("P7.9: ", name, v, n, e)
					}
				}
			}
		}
	}
}
