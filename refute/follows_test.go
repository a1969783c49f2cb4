package refute_test

import (
	"fmt"
	"testing"

	"rafter/affine"
	"rafter/api"
	"rafter/machine"
	"rafter/refute"
	"rafter/solver"
)

// eachRow draws rows at all points of programs, and hands each one on, with what Find tells of it.
func eachRow(t *testing.T, s *stream, count int, do func(text string, r *solver.Result, point int, row []api.Whole, w api.Witness)) {
	t.Helper()
	held(t, s, count, func(text string, r *solver.Result) {
		for p := range r.Graph().Points() {
			for _, row := range s.rows(r, p) {
				w, e := refute.Find(r, p, row)
				if e != api.OK {
					t.Fatalf("P14.1: %q at %d: %s: %v", text, p, say(row), e)
				}
				do(text, r, p, row, w)
			}
		}
	})
}

// allSamples answers how many samples there are at all points.
func allSamples(r *solver.Result) int {
	all := 0
	for p := range r.Graph().Points() {
		all += len(r.Samples(p))
	}
	return all
}

// shows fails the test, if what is shown is no run that breaks the row.
func shows(t *testing.T, text string, r *solver.Result, point int, row []api.Whole, w api.Witness) {
	t.Helper()
	if ok, e := refute.Breaks(r, point, row, w.Choices, w.Fuel); e != api.OK || !ok {
		t.Fatalf("P14.4: %q at %d: %s: %s: %v, %v", text, point, say(row), sayWitness(w), ok, e)
	}
	s, e := machine.Run(r.Graph(), w.Choices, w.Fuel)
	if e != api.OK || s.Point != point || say(s.State) != say(w.State) || meets(w.State, row) {
		t.Fatalf("P14.4: %q at %d: %s: %s: point %d, %s, %v", text, point, say(row), sayWitness(w), s.Point, say(s.State), e)
	}
}

func TestShown(t *testing.T) { // P14.4, P14.5
	s := &stream{3}
	count := map[string]int{}
	eachRow(t, s, 150, func(text string, r *solver.Result, point int, row []api.Whole, w api.Witness) {
		implied, _ := r.Implied(point, row)
		if implied != (w.Kind == api.FindHolds) {
			t.Fatalf("P14.1: %q at %d: %s: %s, implied %v", text, point, say(row), sayWitness(w), implied)
		}
		if w.Kind == api.FindShown {
			shows(t, text, r, point, row, w)
		}
		if !r.Graph().Pure() {
			count["mixed"]++
			return
		}
		count[fmt.Sprint("pure ", w.Kind)]++
		if w.Kind == api.FindLost {
			t.Fatalf("P14.5: %q at %d: %s: lost", text, point, say(row))
		}
		if stand, _ := machine.Run(r.Graph(), w.Choices, w.Fuel); w.Kind == api.FindShown && (stand.Steps > allSamples(r) || w.Fuel > allSamples(r)) {
			t.Fatalf("P14.5: %q at %d: %s: %d steps", text, point, say(row), stand.Steps)
		}
	})
	if count["mixed"] < 2000 || count["pure 1"] < 2000 || count["pure 2"] < 2000 {
		t.Errorf("too few of a kind were drawn: %v", count)
	}
}

func TestHolds(t *testing.T) { // P14.6: a row that is implied is broken by no run, long ones among them
	s := &stream{4}
	count, there := 0, 0
	eachRow(t, s, 150, func(text string, r *solver.Result, point int, row []api.Whole, w api.Witness) {
		if w.Kind != api.FindHolds {
			return
		}
		count++
		for range 4 {
			choices, fuel := s.drawChoices(), s.below(30)-1
			if got, e := refute.Breaks(r, point, row, choices, fuel); e != api.OK || got {
				t.Fatalf("P14.6: %q at %d: %s is broken by %v, %d: %v", text, point, say(row), choices, fuel, e)
			}
			if stand, _ := machine.Run(r.Graph(), choices, fuel); stand.Point == point {
				there++
			}
		}
	})
	if count < 3000 || there < 1000 {
		t.Errorf("too few were drawn: %d, of which %d runs came to the point", count, there)
	}
}

// eachRun hands on each list of choices from 0 to 2, up to four of them.
func eachRun(do func(choices []int)) {
	for long := range 5 {
		many := 1
		for range long {
			many *= 3
		}
		for n := range many {
			choices := make([]int, long)
			for i := range choices {
				choices[i], n = n%3, n/3
			}
			do(choices)
		}
	}
}

func TestAllRuns(t *testing.T) { // P14.5, P14.6, W4: of small pure programs what holds on all short runs, and what is broken by one
	for _, x := range []struct {
		text, holds string
		breaks      []string
	}{
		{counting, "y = 2x + 1", []string{"x = 0", "y = 1", "x = y", "x + y = 4"}},
		{"vars x, y; y := x; loop { choose { x := x + 1; y := y + 1; } or { x := 2 * x; y := 2 * y; } }", "x = y", []string{"x = 0", "x = 1", "x + y = 2"}},
		{"vars x, y; y := any; x := 2 * y - 1;", "x = 2y - 1", []string{"y = 0", "x = 1", "x = y"}},
		{"vars x = 1, y = 0; choose { y := 3; } or { x := 4; } or { x := 3; y := 1; }", "x + y = 4", []string{"x = 1", "x = 4", "y = 1"}},
	} {
		r := solved(t, x.text)
		exit := r.Graph().Exit()
		row, _, _ := affine.Equation(x.holds, r.Graph().Vars())
		if w, e := refute.Find(r, exit, row); e != api.OK || w.Kind != api.FindHolds || !allMeet(r, exit, row) {
			t.Errorf("P14.6: %q: %s: %s, %v", x.text, x.holds, sayWitness(w), e)
		}
		for _, equation := range x.breaks {
			row, _, _ := affine.Equation(equation, r.Graph().Vars())
			w, e := refute.Find(r, exit, row)
			if e != api.OK || w.Kind != api.FindShown || allMeet(r, exit, row) {
				t.Errorf("P14.5: %q: %s: %s, %v", x.text, equation, sayWitness(w), e)
				continue
			}
			shows(t, x.text, r, exit, row, w)
		}
	}
}

// allMeet says whether no short run breaks a row at a point.
func allMeet(r *solver.Result, point int, row []api.Whole) bool {
	out := true
	eachRun(func(choices []int) {
		for fuel := range 20 {
			got, _ := refute.Breaks(r, point, row, choices, fuel)
			out = out && !got
		}
	})
	return out
}

func TestFar(t *testing.T) { // P14.5: a number is handed on from variable to variable, in a loop of as many points as there may be: the last row is broken in the eighth round
	text := "vars a = 0, b = 0, c = 0, d = 0, e = 0, f = 0, g = 0, h = 0; loop { h := g; g := f; f := e; e := d; d := c; c := b; b := a; a := 2 * a + 1; "
	for range api.MaxPoints - 5 - api.MaxVars {
		text += "skip; "
	}
	r := solved(t, text+"} skip;")
	g := r.Graph()
	for v, name := range g.Vars() {
		w, e, _ := refute.Text(r, g.Exit(), name+" = 0")
		if rounds := v + 1; e != api.OK || w.Kind != api.FindShown || w.Fuel != rounds*(api.MaxPoints-3)+3 || len(w.Choices) != rounds+1 {
			t.Errorf("P14.5: %s = 0: %s, %v", name, sayWitness(w), e)
		}
		row, _, _ := affine.Equation(name+" = 0", g.Vars())
		shows(t, text, r, g.Exit(), row, w)
	}
}

func TestOtherNames(t *testing.T) { // P14.2, R4: blanks, comments, other signs and other names turn nothing
	one := solved(t, "vars x = 0, y; loop { x := x + 1; y := 2 * x - 1; } mark m; y := any;")
	two := solved(t, "vars α₁ = 0,β;# so\nloop{α₁≔α₁+1;β≔2·α₁−1;}mark n;β≔any;")
	for _, x := range [][2]string{{"y = 2x - 1", "β=2·α₁−1"}, {"x = 0", "α₁ = 0 # so"}, {"-2*x + 2*y = 3/2", "2β − 2α₁ = 6/4"}} {
		for p := range one.Graph().Points() {
			a, e, _ := refute.Text(one, p, x[0])
			b, f, _ := refute.Text(two, p, x[1])
			if e != api.OK || f != api.OK || sayWitness(a) != sayWitness(b) {
				t.Errorf("R4: %s at %d: %s, %v; %s, %v", x[0], p, sayWitness(a), e, sayWitness(b), f)
			}
		}
	}
}
