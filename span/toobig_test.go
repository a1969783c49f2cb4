package span_test

import (
	"fmt"
	"strings"
	"testing"

	"rafter/api"
	"rafter/span"
)

// bigOr fails the test if a call did not answer what is asked of it: `big` for ErrTooBig, else Rows.
func bigOr(t *testing.T, what string, s *span.Span, e api.Errno, want string) {
	t.Helper()
	switch {
	case want == "big":
		if s != nil || e != api.ErrTooBig {
			t.Errorf("P7.4: %s: %v, want ErrTooBig", what, e)
		}
	case s == nil || e != api.OK:
		t.Errorf("P7.4: %s: no span, %v", what, e)
	case sayAll(s.Rows()) != words.Replace(want):
		t.Errorf("P7.4: %s: %s, want %s", what, sayAll(s.Rows()), want)
	}
}

func TestPointsTooBig(t *testing.T) { // P7.4
	for _, x := range []struct {
		n            int
		points, want string
	}{
		{1, "M", "1 M"}, {1, "-M", "1 -M"}, {1, "P", "big"}, {1, "-P", "big"}, {1, "1/M", "M 1"}, {1, "1/P", "big"}, {1, "M/N", "N M"}, {1, "P/M", "big"}, {1, "P; 0", ""}, {1, "P; 1/P", ""},
		{2, "0 0; P P", "1 -1 0"}, {2, "P 0; 1/P 0", "0 1 0"}, {2, "0 P; 1 P", "big"}, {2, "0 0; M N", "N -M 0"}, {2, "0 0; P M", "big"}, {2, "P 3; P 4", "big"}, {2, "M 3; M 4", "1 0 M"},
		{2, "0 0; P M; M P", ""},                       // all points, however far those that were given are
		{2, "1/M 1/N", "M 0 1; 0 N 1"},                 // each number is short enough, though the two have no short denominator in common
		{2, "M 0; 0 N", "big"},                         // the right side alone is too big
		{3, "0 0 0; M 0 1; 0 N 1", "big"},              // short steps, long rows
		{3, "M 0 1; M M 1; M N 1", "1 0 0 M; 0 0 1 1"}, // a short base
	} {
		s, e := span.Points(x.n, several(x.points, point))
		bigOr(t, "Points of "+x.points, s, e, x.want)
	}
}

func TestRowsTooBig(t *testing.T) { // P7.4
	for _, x := range []struct {
		n          int
		rows, want string
	}{
		{1, "1 M", "1 M"}, {1, "1 P", "big"}, {1, "P 1", "big"}, {1, "M N", "M N"}, {1, "P P", "1 1"}, {1, "P 0", "1 0"}, {1, "0 P", "0 1"}, {1, "0 0", ""}, {1, "P 1; 1 0", "0 1"}, {1, "1 P; 1 0", "0 1"},
		{2, "P 1 0; 1 0 0", "1 0 0; 0 1 0"}, {2, "P P P", "1 1 1"}, {2, "1 P 0", "big"}, {2, "1 P 0; 1 P 1", "0 0 1"}, {2, "1 P 0; 0 0 1", "0 0 1"}, {2, "P 1 M; P 1 P; M 1 1", "0 0 1"},
		{2, "1 M 0; 0 1 0", "1 0 0; 0 1 0"}, {2, "1 -M 0; 0 1 M", "big"}, {2, "1 -R 0; 0 1 R", "big"}, {2, "1 -R 0; 0 1 1", "1 0 R; 0 1 1"},
		{3, "M 0 1 0; 0 N 1 0", "big"},              // short rows, long steps
		{3, "1 0 M 1; 0 1 1 M", "big"},              // short rows and steps, long base
		{3, "1 0 M 1; 0 1 1 1", "1 0 M 1; 0 1 1 1"}, // the same with a short base
		{3, "1 0 M 1; 0 1 1 2", "big"},              // and with one of one limb too many: 2 M - 1 over M
		{3, "M 0 1 0; 0 2 1 0", "big"},              // steps of one limb too many: 2 M
		{3, "H 0 1 0; 0 2 1 0", "H 0 1 0; 0 2 1 0"},
		{3, "M 0 0 1; 0 N 0 1; 0 0 H 1", "M 0 0 1; 0 N 0 1; 0 0 H 1"},
	} {
		s, e := span.Rows(x.n, several(x.rows, row))
		bigOr(t, "Rows of "+x.rows, s, e, x.want)
	}
}

func TestWhatIsTooBig(t *testing.T) { // P7.4: the model tells which number it is
	for _, x := range []struct {
		rows        string
		inRows, big bool
	}{{"M 0 1 0; 0 N 1 0", false, true}, {"1 0 M 1; 0 1 1 M", false, true}, {"1 0 M 1; 0 1 1 1", false, false}, {"1 -M 0 0; 0 1 -M 0", true, true}} {
		m := solved(3, toRats(several(x.rows, row), wholeRat))
		long := false
		for _, l := range lowest(m.rows()) {
			for _, n := range l {
				long = long || len(n.Mag) > api.MaxLimbs
			}
		}
		if long != x.inRows || m.tooBig() != x.big {
			t.Errorf("the model of %s: %v, %v", x.rows, long, m.tooBig())
		}
		s, e := span.Rows(3, several(x.rows, row))
		like(t, "P7.4: "+x.rows, s, e, m)
	}
}

func TestManyLongDenominators(t *testing.T) { // P7.4: sixteen of them, each at the limit
	var numbers []string
	for i := range 2 * api.MaxVars {
		numbers = append(numbers, fmt.Sprintf("%d/%s", i+1, shifted(i)))
	}
	s := byPoints(t, 2*api.MaxVars, strings.Join(numbers, " "))
	if base, there := s.Base(); !there || sayPoint(base) != sayPoint(point(strings.Join(numbers, " "))) {
		t.Error("P7.4: ", sayPoint(base))
	}
	back := ok(t)(span.Rows(2*api.MaxVars, s.Rows()))
	if !back.Same(s) || s.Dim() != 0 {
		t.Error("P7.10: another point")
	}
	line := ok(t)(s.Any(3))
	if line.Dim() != 1 || !yes(t)(s.Within(line)) {
		t.Error("P7.9: ", line.Dim())
	}
}

// shifted answers most less 2 i, in digits.
func shifted(i int) string {
	x := rats("M")[0].Num()
	for range 2 * i {
		x.Sub(x, rats("1")[0].Num())
	}
	return x.String()
}

func TestMovedTooBig(t *testing.T) { // P7.4: what each call would answer
	type answer = func() (*span.Span, api.Errno)
	rows := func(n int, s string) *span.Span { t.Helper(); return byRows(t, n, s) }
	points := func(n int, s string) *span.Span { t.Helper(); return byPoints(t, n, s) }
	all1, all2 := ok(t)(span.All(1)), ok(t)(span.All(2))
	far := rows(4, "1 0 N H 0; 0 1 M M 0")
	for _, x := range []struct {
		what, want string
		ask        answer
	}{
		{"a line through two points", "big", func() (*span.Span, api.Errno) { return points(2, "M 0").Join(points(2, "0 N")) }},
		{"a line through two points", "N -M 0", func() (*span.Span, api.Errno) { return points(2, "0 0").Join(points(2, "M N")) }},
		{"all points", "", func() (*span.Span, api.Errno) { return points(2, "M 0; 0 0").Join(points(2, "0 N; 1 N")) }},
		{"two lines meet far away", "big", func() (*span.Span, api.Errno) { return rows(2, "1 -M 0").Meet(rows(2, "0 1 M")) }},
		{"two lines meet far away", "1 0 M; 0 1 1", func() (*span.Span, api.Errno) { return rows(2, "1 -M 0").Meet(rows(2, "0 1 1")) }},
		{"two lines do not meet", "0 0 1", func() (*span.Span, api.Errno) { return rows(2, "M N 1").Meet(rows(2, "M N H")) }},
		{"M doubled", "big", func() (*span.Span, api.Errno) { return points(1, "M").Set(0, row("2 0")) }},
		{"M and 1", "big", func() (*span.Span, api.Errno) { return points(1, "M").Set(0, row("1 1")) }},
		{"M less P", "1 -1", func() (*span.Span, api.Errno) { return points(1, "M").Set(0, row("1 -P")) }},
		{"0 times P", "1 0", func() (*span.Span, api.Errno) { return points(1, "0").Set(0, row("P 0")) }},
		{"P times all", "", func() (*span.Span, api.Errno) { return all1.Set(0, row("P P")) }},
		{"P times one of two", "big", func() (*span.Span, api.Errno) { return rows(2, "1 -1 0").Set(0, row("P 0 0")) }},
		{"P times what is 0", "1 0 0", func() (*span.Span, api.Errno) { return rows(2, "1 -1 0").Set(0, row("P -P 0")) }},
		{"all to P", "big", func() (*span.Span, api.Errno) { return all2.Set(1, row("0 0 P")) }},
		{"all to M", "0 1 M", func() (*span.Span, api.Errno) { return all2.Set(1, row("0 0 M")) }},
		{"nothing times P", "0 1", func() (*span.Span, api.Errno) { return rows(1, "0 1").Set(0, row("P P")) }},
		{"a number of four let go", "big", func() (*span.Span, api.Errno) { return far.Any(2) }},
		{"the first of four let go", "0 1 M M 0", func() (*span.Span, api.Errno) { return far.Any(0) }},
		{"1 through P", "big", func() (*span.Span, api.Errno) { return points(1, "1").Before(0, row("P 0")) }},
		{"M through M", "1 1", func() (*span.Span, api.Errno) { return points(1, "M").Before(0, row("M 0")) }},
		{"0 through P", "1 0", func() (*span.Span, api.Errno) { return points(1, "0").Before(0, row("P 0")) }},
		{"1 through P more", "1 -M", func() (*span.Span, api.Errno) { return points(1, "1").Before(0, row("1 P")) }},
		{"0 through P more", "big", func() (*span.Span, api.Errno) { return points(1, "0").Before(0, row("1 P")) }},
		{"1 from P", "0 1", func() (*span.Span, api.Errno) { return points(1, "1").Before(0, row("0 P")) }},
		{"all through P", "", func() (*span.Span, api.Errno) { return all2.Before(0, row("P M P")) }},
		{"M, whatever it is", "0 1", func() (*span.Span, api.Errno) { return points(1, "M").Every(0) }},
		{"M beside anything", "1 0 M", func() (*span.Span, api.Errno) { return rows(2, "1 0 M").Every(1) }},
	} {
		s, e := x.ask()
		bigOr(t, x.what, s, e, x.want)
	}
}

func TestLongAnswersToQuestions(t *testing.T) { // P7.7: what is asked may be as long as it likes
	line := byRows(t, 2, "1 -1 0")
	for _, x := range []struct {
		point string
		want  bool
	}{{"P P", true}, {"1/P 1/P", true}, {"P M", false}, {"P/N P/N", true}} {
		if is := yes(t)(line.Has(point(x.point))); is != x.want {
			t.Errorf("P7.7: Has(%s): %v", x.point, is)
		}
	}
	for _, x := range []struct {
		row  string
		want bool
	}{{"P -P 0", true}, {"P -P 1", false}, {"P -M 0", false}, {"0 0 P", false}} {
		if is := yes(t)(line.Holds(row(x.row))); is != x.want {
			t.Errorf("P7.7: Holds(%s): %v", x.row, is)
		}
	}
}
