package refute_test

import (
	"math"
	"strings"
	"testing"

	"rafter/affine"
	"rafter/api"
	"rafter/refute"
	"rafter/solver"
)

const counting = "vars x = 0, y = 1; loop { x := x + 1; y := y + 2; }"

// tale is what must be told of an equation at a point of a program.
type tale struct {
	text     string
	point    int
	equation string
	want     string
}

// check fails the test, if Text or Find tells something else; and if a run that is shown does not break the row.
func (x tale) check(t *testing.T) {
	t.Helper()
	r := solved(t, x.text)
	w, e, at := refute.Text(r, x.point, spelt(x.equation))
	if e != api.OK || at != (api.Place{}) || sayWitness(w) != spelt(x.want) {
		t.Errorf("P14.2: %q at %d: %s: %s, %v at %v", x.text, x.point, x.equation, sayWitness(w), e, at)
	}
	row, _, _ := affine.Equation(spelt(x.equation), r.Graph().Vars())
	w, e = refute.Find(r, x.point, row)
	if e != api.OK || sayWitness(w) != spelt(x.want) {
		t.Errorf("P14.1: %q at %d: %s: %s, %v", x.text, x.point, x.equation, sayWitness(w), e)
	}
	if broken, e := refute.Breaks(r, x.point, row, w.Choices, w.Fuel); w.Kind == api.FindShown && (e != api.OK || !broken) {
		t.Errorf("P14.4: %q at %d: %s: %v, %v", x.text, x.point, x.equation, broken, e)
	}
}

func TestExamples(t *testing.T) { // P14.1, P14.2: of the document, and the least programs
	for _, x := range []tale{
		{counting, 1, "y = 2x + 1", "holds 0 |  | "},
		{counting, 1, "x = 0", "shown 5 | 1 | 1 3"},
		{counting, 0, "x = 0", "holds 0 |  | "},
		{counting, 0, "x = 1", "shown 0 |  | 0 1"},
		{counting, 5, "y = 3", "shown 2 | 0 | 0 1"},
		{counting, 5, "y = 1", "shown 6 | 1 0 | 1 3"},
		{counting, 1, "0 = 0", "holds 0 |  | "},
		{counting, 1, "0 = 1", "shown 1 |  | 0 1"},
		{"vars a, b; b := any; choose { a := b; } or { a := 3 * b - 2; }", 6, "a = b", "shown 4 | 0 0 0 1 | -2 0"},
		{"vars x, y = 1, z;", 0, "x = 0", "shown 0 | 1 0 | 1 1 0"},
		{"vars x, y = 1, z;", 0, "z = 0", "shown 0 | 0 1 | 0 1 1"},
		{"vars x, y = 1, z;", 0, "x + z = 1", "shown 0 | 0 0 | 0 1 0"},
		{"vars x, y = 1, z;", 0, "y = 1", "holds 0 |  | "},
		{"vars;", 0, "0 = 0", "holds 0 |  | "},
		{"vars;", 0, "1 = 2", "shown 0 |  | "},
		{"vars; skip; choose { } or { skip; }", 2, "1 = 2", "shown 2 | 0 | "},
		{"vars x = M;", 0, "x = M", "holds 0 |  | "},
		{"vars x = M;", 0, "x = N", "shown 0 |  | M"},
		{"vars x = 1; stop; x := 2;", 1, "x = 7", "holds 0 |  | "}, // no run comes there
		{"vars x = 1; stop; x := 2;", 2, "0 = 1", "holds 0 |  | "},
	} {
		x.check(t)
	}
}

func TestNotAsked(t *testing.T) { // P14.1: conditions, and what no form tells
	for _, x := range []tale{
		// no run comes to the sample: the one of its choices comes to the point, and meets the row
		{"vars x = 5; if x = 1 { x := 7; }", 4, "x = 5", "lost 0 |  | "},
		{"vars x = 5; if x = 1 { x := 7; }", 4, "x = 7", "shown 2 |  | 5"},
		// no run comes to the point at all
		{"vars x = 5; if x = 1 { x := 7; }", 2, "x = 5", "lost 0 |  | "},
		{"vars x = 5; if x = 1 { x := 7; }", 2, "x = 7", "holds 0 |  | "},
		// the run stands elsewhere, in a state that does not meet the row
		{"vars x = 5; if x = 1 { skip; } else { x := 9; skip; }", 1, "x = 4", "lost 0 |  | "},
		// the first sample's run stands elsewhere, the second one's breaks the row
		{"vars x = 5; if x = 1 { x := 7; } else { skip; x := 8; }", 6, "x = 0", "shown 4 |  | 8"},
		// the first sample's run goes the other way, and breaks the row there
		{"vars x = 5; if x = 1 { x := 7; } else { x := 8; }", 5, "x = 0", "shown 3 |  | 8"},
		{"vars x = 5; if x = 1 { x := 7; } else { x := 8; }", 5, "x = 7", "shown 3 |  | 8"},
		{"vars x = 5; if x = 1 { x := 7; } else { x := 8; }", 5, "x = 8", "lost 0 |  | "},
		// what no form tells is another number than the sample's
		{"vars x = 5, y = 2; if x = 1 { x := 7; } y := x * y;", 5, "y = 0", "shown 3 |  | 5 10"},
		{"vars x = 5, y = 2; if x = 1 { x := 7; } y := x * y;", 5, "x = 5", "lost 0 |  | "},
		// a number that is longer than one that is told elsewhere
		{"vars x = M; x := x * x;", 1, "x = 0", "shown 1 |  | Q"},
		// a sample that meets the row is not tried, though the run of its choices would break it
		{"vars x, y = 0; y := x * x;", 1, "y = 0", "lost 0 |  | "},
		// the fuel is the road's, though the run makes fewer steps
		{"vars x, y = 0, z = 0; y := x * x; if x = 7 { z := 5 * x; }", 5, "y + z = 0", "shown 4 | 1 | 1 1 0"},
		// the run gets stuck
		{"vars x = 3; x := 1 / (x - 3);", 1, "x = 5", "lost 0 |  | "},
		// ahead of the test it is sure
		{"vars x = 5; skip; while x = 1 { x := any; }", 1, "x = 1", "shown 1 |  | 5"},
	} {
		x.check(t)
	}
}

func TestRisingIndexes(t *testing.T) { // P14.1: of several samples that do not meet the row the first one
	r := solved(t, "vars x, y, z;")
	for _, x := range [][2]string{
		{"1 1 1 9", "shown 0 | 0 0 0 | 0 0 0"},
		{"1 1 1 0", "shown 0 | 1 0 0 | 1 0 0"},
		{"0 1 1 0", "shown 0 | 0 1 0 | 0 1 0"},
		{"0 0 1 0", "shown 0 | 0 0 1 | 0 0 1"},
		{"0 0 0 0", "holds 0 |  | "},
		{"0 0 0 5", "shown 0 | 0 0 0 | 0 0 0"},
	} {
		if w, e := refute.Find(r, 0, numbers(x[0])); e != api.OK || sayWitness(w) != x[1] {
			t.Errorf("P14.1: %s: %s, %v", x[0], sayWitness(w), e)
		}
	}
}

func TestAnyRow(t *testing.T) { // P14.1, P14.3, R5: the row need not be canonical, nor its numbers short or in their one form
	r := solved(t, counting)
	odd := func(neg bool, l ...uint32) api.Whole { return api.Whole{Neg: neg, Mag: l} }
	for _, x := range []struct {
		row  []api.Whole
		want string
	}{
		{numbers("-6 3 3"), "holds 0 |  | "},
		{numbers("-6 3 0"), "shown 1 |  | 0 1"},
		{[]api.Whole{odd(false, 2, 0, 0), odd(true, 1, 0), odd(true, 1, 0, 0, 0)}, "holds 0 |  | "},
		{[]api.Whole{odd(false, 2, 0), odd(true, 1, 0), odd(false, 1, 0)}, "shown 1 |  | 0 1"},
		{[]api.Whole{odd(true, 0, 0), odd(true), odd(true, 0)}, "holds 0 |  | "},
		{[]api.Whole{odd(false, 1, 0), odd(true, 0), odd(true)}, "shown 5 | 1 | 1 3"},
		{append(numbers("Q"), numbers("0 0")...), "shown 5 | 1 | 1 3"},
		{[]api.Whole{odd(false, append(make([]uint32, 2000), 2)...), odd(true, append(make([]uint32, 2000), 1)...), odd(true, append(make([]uint32, 2000), 1, 0)...)}, "holds 0 |  | "},
	} {
		w, e := refute.Find(r, 1, x.row)
		if e != api.OK || sayWitness(w) != x.want {
			t.Errorf("P14.1: %s: %s, %v; want %s", say(x.row), sayWitness(w), e, x.want)
		}
		if got, e := refute.Breaks(r, 1, x.row, w.Choices, w.Fuel); e != api.OK || got != (w.Kind == api.FindShown) {
			t.Errorf("P14.3: %s: %v, %v", say(x.row), got, e)
		}
	}
}

func TestBreaks(t *testing.T) { // P14.3
	r := solved(t, counting)
	for _, x := range []struct {
		point   int
		row     string
		choices []int
		fuel    int
		want    bool
	}{
		{1, "1 0 0", []int{1}, 5, true},
		{1, "1 0 0", nil, 1, false},                 // there, and the row is met
		{1, "1 0 1", nil, 1, true},                  // there, and it is not
		{1, "1 0 0", []int{1}, 4, false},            // elsewhere
		{4, "1 0 0", []int{1}, 4, true},             // .. namely here
		{1, "1 0 0", []int{1, 1}, 9, true},          // round and round
		{1, "1 0 0", []int{1}, math.MaxInt, true},   // it waits there
		{1, "1 0 1", []int{1, 0}, 99, false},        // it has passed by
		{5, "1 0 0", []int{1, 0}, 99, true},         // .. to its end
		{5, "1 0 0", []int{-1, 8, 7}, 99, true},     // choices of any size
		{0, "1 0 1", []int{1}, 0, true},             // no step
		{0, "1 0 1", []int{1}, -3, true},            // .
		{0, "1 0 1", []int{1}, math.MinInt, true},   // .
		{0, "1 0 0", nil, 0, false},                 // .
		{1, "2 -1 -1", []int{1, 1, 1}, 13, false},   // implied
		{1, "4 -2 -2", []int{1, 1, 1}, 13, false},   // .
		{1, "0 0 0", []int{1, 1, 1}, 13, false},     // .
		{1, "0 0 1", []int{1, 1, 1}, 13, true},      // met nowhere
		{4, "0 0 1", []int{1, 1, 1}, 13, false},     // .. but the run stands elsewhere
		{1, "1 0 3", []int{1, 1, 1, 1}, 13, false},  // a state to which the run comes
		{1, "1 0 3", []int{1, 1, 1, 1}, 12, false},  // .
		{1, "1 0 3", []int{1, 1, 1, 1}, 17, true},   // .
		{1, "1 0 16383", rounds(16383), 1e6, false}, // as far as a run goes
		{1, "1 0 16382", rounds(16383), 1e6, true},  // .
		{4, "1 0 0", rounds(99999), 1e6, true},      // MaxFuel steps lead there
		{1, "1 0 0", rounds(99999), 1e6, false},     // .. and no further
	} {
		if got, e := refute.Breaks(r, x.point, numbers(x.row), x.choices, x.fuel); e != api.OK || got != x.want {
			t.Errorf("P14.3: %d, %s by %.30v, %d: %v, %v", x.point, x.row, x.choices, x.fuel, got, e)
		}
	}
}

// rounds answers choices that go into a loop so many times.
func rounds(count int) []int {
	out := make([]int, count)
	for i := range out {
		out[i] = 1
	}
	return out
}

// refused fails the test, if Find or Breaks answers another error, or anything beside it.
func refused(t *testing.T, what string, r *solver.Result, point int, row []api.Whole, want api.Errno) {
	t.Helper()
	w, e := refute.Find(r, point, row)
	if e != want || sayWitness(w) != " 0 |  | " {
		t.Errorf("P14.1: Find(%s, %d, %s): %s, %v; want %v", what, point, say(row), sayWitness(w), e, want)
	}
	for _, fuel := range []int{0, 99, math.MinInt} {
		if got, e := refute.Breaks(r, point, row, []int{1, 0}, fuel); e != want || got {
			t.Errorf("P14.3: Breaks(%s, %d, %s): %v, %v; want %v", what, point, say(row), got, e, want)
		}
	}
}

// refusedText fails the test, if Text answers another error or place, or anything beside it.
func refusedText(t *testing.T, what string, r *solver.Result, point int, equation string, want api.Errno, place api.Place) {
	t.Helper()
	w, e, at := refute.Text(r, point, equation)
	if e != want || at != place || sayWitness(w) != " 0 |  | " {
		t.Errorf("P14.2: Text(%s, %d, %.40q): %s, %v at %v; want %v at %v", what, point, equation, sayWitness(w), e, at, want, place)
	}
}

func TestRefused(t *testing.T) { // P14.1, P14.3, R2: nil ahead of the point, the point ahead of the row
	r := solved(t, counting)
	rows := [][]api.Whole{nil, {}, numbers("0"), numbers("1 0"), numbers("1 0 0 0"), numbers("1 0 0 0 0 0 0 0 0 0")}
	for _, row := range append(rows, numbers("1 0 0")) {
		for _, point := range []int{0, 1, -1, 9} {
			refused(t, "nil", nil, point, row, api.ErrArg)
		}
		for _, point := range []int{-1, 6, 9, math.MaxInt, math.MinInt} {
			refused(t, counting, r, point, row, api.ErrPoint)
		}
	}
	stopped := solved(t, "vars x = 1, y; stop; skip;")
	for _, row := range rows {
		for point := range 6 {
			refused(t, counting, r, point, row, api.ErrArg)
		}
		refused(t, "stopped", stopped, 1, row, api.ErrArg) // a point that has no sample is a point nonetheless
	}
	refused(t, "no variable", solved(t, "vars;"), 0, nil, api.ErrArg)
	refused(t, "no variable", solved(t, "vars;"), 0, numbers("0 0"), api.ErrArg)
	refused(t, "a result that no call answered", &solver.Result{}, 0, numbers("0"), api.ErrPoint) // R1
}

func TestTextRefused(t *testing.T) { // P14.2, R2: nil ahead of the point, the point ahead of the text
	r := solved(t, counting)
	long := "x = 1" + strings.Repeat(" ", api.MaxText-5)
	for _, text := range []string{"x", "", "x = z", "x == 1", "x = 1/0", "x = \xff", "x\n = 1 §", "2 * 3 = x", "x = y y", long + " ", spelt("x = M + 1"), "x = 1" + strings.Repeat("0", api.MaxDigits), "x + y = 1\n# so\n+"} {
		_, e, at := affine.Equation(text, r.Graph().Vars())
		if e == api.OK {
			t.Errorf("%.40q is refused by nobody", text)
		}
		refusedText(t, counting, r, 1, text, e, at)
		for _, point := range []int{-1, 6, 7, math.MaxInt, math.MinInt} {
			refusedText(t, counting, r, point, text, api.ErrPoint, api.Place{})
			refusedText(t, "nil", nil, point, text, api.ErrArg, api.Place{})
		}
		refusedText(t, "nil", nil, 1, text, api.ErrArg, api.Place{})
	}
	refusedText(t, counting, r, 1, "x", api.ErrBadEquation, api.Place{Byte: 1, Glyph: 1, Line: 1, Column: 2})
	refusedText(t, counting, r, 1, "x = z", api.ErrBadEquation, api.Place{Byte: 4, Glyph: 4, Line: 1, Column: 5})
	refusedText(t, counting, r, 1, spelt("x = M + 1"), api.ErrTooBig, api.Place{})
	refusedText(t, "a result that no call answered", &solver.Result{}, 0, "x = 1", api.ErrPoint, api.Place{}) // R1
	for _, text := range []string{long, spelt("M x = 2 y")} {                                                 // as long as they can be
		if w, e, at := refute.Text(r, 0, text); e != api.OK || at != (api.Place{}) || sayWitness(w) != "shown 0 |  | 0 1" {
			t.Errorf("P14.2: %.40q: %s, %v at %v", text, sayWitness(w), e, at)
		}
	}
}
