package solver_test

import (
	"fmt"
	"strings"
	"testing"

	"rafter/api"
	"rafter/graph"
	"rafter/sketch"
	"rafter/solver"
)

func TestExamples(t *testing.T) { // the chapter's
	for _, x := range []struct {
		text         string
		point        int
		states, rows string
	}{
		{"vars x = 3, y;", 0, "3 0; 3 1", "1 0 3"},
		{"vars x = 0, y = 1; loop { x := x + 1; y := y + 2; }", 1, "0 1; 1 3", "2 -1 -1"},
		{"vars x = 0, y = 1; loop { x := x + 1; y := y + 2; }", 0, "0 1", "1 0 0; 0 1 1"},
		{"vars x, y; y := any; x := y;", 2, "0 0; 1 1", "1 -1 0"},
		{"vars x = 0; choose { x := 1; } or { x := 2; }", 5, "1; 2", ""},
		{"vars x = 1; stop; x := 2;", 1, "", "0 1"},
		{"vars x = 1; stop; x := 2;", 2, "", "0 1"},
		{"vars x = 5; if x = 1 { x := 7; }", 4, "5; 7", ""},
	} {
		r := solved(t, x.text)
		if got := sayStates(r.Samples(x.point)); got != x.states || sayRows(r.Rows(x.point)) != x.rows {
			t.Errorf("P12.2: %s at %d: %s | %s; want %s | %s", x.text, x.point, got, sayRows(r.Rows(x.point)), x.states, x.rows)
		}
	}
}

// finds fails the test if the samples of a point are not these, with how they came.
func finds(t *testing.T, text string, point int, want string) {
	t.Helper()
	if got := saySamples(solved(t, text).Samples(point)); got != spelt(want) {
		t.Errorf("P12.1 to P12.3: %s at %d: %s; want %s", text, point, got, want)
	}
}

func TestBeginning(t *testing.T) { // P12.1, P12.3
	finds(t, "vars;", 0, " (-1 -1 -1 -1)")
	finds(t, "vars x = -3;", 0, "-3 (-1 -1 -1 -1)")
	finds(t, "vars x = 0;", 0, "0 (-1 -1 -1 -1)")
	finds(t, "vars x = -M, y = M;", 0, "-M M (-1 -1 -1 -1)")
	finds(t, "vars x;", 0, "0 (-1 -1 -1 -1); 1 (-1 -1 -1 0)")
	finds(t, "vars a, b = 4, c, d = -2, e;", 0, "0 4 0 -2 0 (-1 -1 -1 -1); 1 4 0 -2 0 (-1 -1 -1 0); 0 4 1 -2 0 (-1 -1 -1 2); 0 4 0 -2 1 (-1 -1 -1 4)")
	r := solved(t, "vars a, b, c, d, e, f, g, h;")
	if r.Dim(0) != 8 || len(r.Samples(0)) != 9 || len(r.Rows(0)) != 0 || r.Looks() != 0 {
		t.Errorf("P12.1: %s", saySamples(r.Samples(0)))
	}
}

func TestEdges(t *testing.T) { // P12.2, P12.3: what each kind of edge makes of a sample
	finds(t, "vars x = 7, y; skip;", 1, "7 0 (0 0 0 0); 7 1 (0 1 0 0)")
	finds(t, "vars x = 7, y; x := 3 * y - 2 * x + 1;", 1, "-13 0 (0 0 0 0); -10 1 (0 1 0 0)")
	finds(t, "vars x = 7, y; y := x;", 1, "7 7 (0 0 0 0)")
	finds(t, "vars x = 7, y = 2; y := any;", 1, "7 0 (0 0 0 0); 7 1 (0 0 0 1)")
	finds(t, "vars x = 7, y = 2; y := x * y;", 1, "7 0 (0 0 0 0); 7 1 (0 0 0 1)")
	finds(t, "vars x = 7, y = 2; y := x / 2;", 1, "7 0 (0 0 0 0); 7 1 (0 0 0 1)")
	finds(t, "vars x = 7, y; y := any;", 1, "7 0 (0 0 0 0); 7 1 (0 0 0 1)") // from the second sample comes nothing new
	finds(t, "vars x, y = 2; y := any;", 1, "0 0 (0 0 0 0); 0 1 (0 0 0 1); 1 0 (0 1 0 0)")
	finds(t, "vars x = 7; x := 7 / 0;", 1, "0 (0 0 0 0); 1 (0 0 0 1)") // no run comes there
	finds(t, "vars x = 7; choose { } or { x := 1; } or { }", 5, "7 (1 0 4 0); 1 (3 0 5 0)")
	finds(t, "vars x = 7; if x = 8 { } else { x := 1; }", 4, "7 (1 0 3 0); 1 (3 0 4 0)")
	finds(t, "vars x = 7; if x * x != 49 { } else { x := 1; }", 4, "7 (1 0 3 0); 1 (3 0 4 0)")
	finds(t, "vars x = 7; while x = 0 { x := x + 2; }", 4, "7 (1 0 4 0); 9 (1 1 4 0)")
	finds(t, "vars x = 7; loop { x := x + 2; }", 4, "7 (1 0 4 0); 9 (1 1 4 0)")
}

func TestOrder(t *testing.T) { // P12.2: from the front, and edges by rising numbers
	// The shortest way comes first, wherever it stands.
	finds(t, "vars x = 0; choose { skip; x := 1; } or { x := 2; } or { skip; skip; x := 3; }", 10, "2 (5 0 10 0); 1 (3 0 9 0)")
	// Of ways of one length the one with the lower edge.
	finds(t, "vars x = 0; choose { x := 1; } or { x := 2; } or { x := 3; }", 7, "1 (2 0 6 0); 2 (4 0 7 0)")
	// Nothing of the block is known when the loop is left for the first time.
	finds(t, "vars x = 0, y = 0; loop { x := x + 1; y := x * 2; }", 5, "0 0 (1 0 5 0); 1 2 (1 1 5 0)")
	// Where both images of an EdgeAny are new, the one with 0 comes first, and the next sample waits behind both.
	finds(t, "vars x = 3, y = 4; choose { } or { y := 5; } x := any;", 5, "0 4 (4 0 5 0); 1 4 (4 0 5 1); 0 5 (4 1 5 0)")
	// As they are then: the first image of a look is there when the second one is asked.
	finds(t, "vars x, y; loop { x := any; y := any; }", 1, "0 0 (0 0 0 0); 1 0 (0 1 0 0); 0 1 (0 2 0 0)")
}

func TestHowTheyCame(t *testing.T) { // P12.3: in a loop that goes round more than once
	text := "vars x = 0, y; loop { x := x + 1; y := any; }"
	finds(t, text, 1, "0 0 (0 0 0 0); 0 1 (0 1 0 0); 1 0 (4 0 4 0)")
	finds(t, text, 2, "0 0 (1 0 1 0); 0 1 (1 1 1 0); 1 0 (1 2 1 0)")
	finds(t, text, 3, "1 0 (2 0 2 0); 1 1 (2 1 2 0); 2 0 (2 2 2 0)")
	finds(t, text, 4, "1 0 (3 0 3 0); 1 1 (3 0 3 1); 2 0 (3 2 3 0)")
	finds(t, text, 5, "0 0 (1 0 5 0); 0 1 (1 1 5 0); 1 0 (1 2 5 0)")
}

func TestRounds(t *testing.T) { // P12.2: as many rounds as are needed, and no more
	text := "vars x = 0, y = 0, z = 0; loop { x := x + 1; y := y + x; z := x + y; }"
	finds(t, text, 1, "0 0 0 (0 0 0 0); 1 1 2 (5 0 5 0); 2 3 5 (5 1 5 0)")
	r := solved(t, text)
	if got := sayRows(r.Rows(1)); got != "1 1 -1 0" || r.Dim(1) != 2 || r.Looks() != 1+6*3 {
		t.Errorf("P12.5: %s, %d, %d looks", got, r.Dim(1), r.Looks())
	}
}

func TestUnreached(t *testing.T) { // P12.12: behind a stop there is nothing
	r := solved(t, "vars x, y = 2; choose { stop; x := any; } or { stop; } mark m; y := x * x; loop { x := x + 1; }")
	m, _ := r.Graph().Mark("m")
	for p := range r.Graph().Points() {
		before := p == 0 || p == 1 || p == 4
		if there := len(r.Samples(p)) > 0; there != before || (r.Dim(p) == -1) == before || (sayRows(r.Rows(p)) == "0 0 1") == before {
			t.Errorf("P12.12: %d: %s | %s, %d", p, saySamples(r.Samples(p)), sayRows(r.Rows(p)), r.Dim(p))
		}
	}
	if s, e := r.Span(m); e != api.OK || s.Dim() != -1 || s.Vars() != 2 {
		t.Errorf("P12.5: %v", e)
	}
	if text, e := r.Print(m); e != api.OK || text != "0 = 1\n" {
		t.Errorf("P12.8: %q, %v", text, e)
	}
	if !implied(t, r, m, numbers("0 0 1")) || !implied(t, r, m, numbers("3 P 7")) {
		t.Error("P12.6: where no run comes each row is implied")
	}
	if c, ok, e := r.Constant(m, 1); ok || e != api.OK || c.Num.Mag != nil || c.Num.Neg || c.Den != nil {
		t.Errorf("P12.7: %v, %v, %v", c, ok, e)
	}
}

func TestMost(t *testing.T) { // P12.11: as many looks as there may be
	text := "vars a, b, c, d, e, f, g, h; " + strings.Repeat("skip; ", api.MaxPoints-1)
	r := solved(t, text)
	if r.Looks() != (api.MaxPoints-1)*(api.MaxVars+1) {
		t.Errorf("P12.11: %d looks", r.Looks())
	}
	for p := range api.MaxPoints {
		if r.Dim(p) != api.MaxVars || len(r.Rows(p)) != 0 {
			t.Errorf("P12.11: %d at %d", r.Dim(p), p)
		}
	}
	last := api.MaxPoints - 1
	if got := r.Samples(last)[8]; got.Point != last-1 || got.Index != 8 || got.Edge != last-1 || got.Value != 0 || say(got.State) != "0 0 0 0 0 0 0 1" {
		t.Errorf("P12.3: %v", got)
	}
}

func TestSlowGrowth(t *testing.T) { // P12.2: one dimension a round, with long numbers on the way
	var text strings.Builder
	text.WriteString("vars a = 3, b = 5, c = 7, d = 11, e = 13, f = 17, g = 19, h = 23; loop { ")
	for i := range api.MaxVars {
		name := sketch.Letters[i : i+1]
		fmt.Fprintf(&text, "%s := %s * %s; ", name, power(104+uint(i), int64(2*i+1)), name)
	}
	text.WriteString(strings.Repeat("skip; ", 50) + "}")
	g := graphed(t, text.String())
	r, e := solver.Solve(g)
	if e != api.OK || r.Dim(1) != api.MaxVars || r.Dim(g.Exit()) != api.MaxVars || r.Dim(0) != 0 {
		t.Fatalf("P12.2: %v", e)
	}
	for i, x := range r.Samples(1) {
		if i > 0 && (x.Point != g.Exit()-1 || x.Index != i-1) {
			t.Errorf("P12.3: %d %d", x.Point, x.Index)
		}
	}
}

func TestNoVariables(t *testing.T) { // P12.5: over no variable there is one state
	r := solved(t, "vars; loop { skip; } choose { stop; } or { }")
	for p, want := range []string{"", "", "", "", "", "", "1", "", ""} {
		if got := sayRows(r.Rows(p)); got != want {
			t.Errorf("P12.5: %d: %q; want %q", p, got, want)
		}
	}
	for row, want := range map[string]bool{"0": true, "5": false} {
		if implied(t, r, 0, numbers(row)) != want || !implied(t, r, 6, numbers(row)) {
			t.Errorf("P12.6: 0 = %s", row)
		}
	}
}

func TestOfNothing(t *testing.T) { // P12.4, R1, R2
	for _, g := range []*graph.Graph{nil, {}} {
		if r, e := solver.Solve(g); r != nil || e != api.ErrArg {
			t.Errorf("P12.4: %v, %v", r, e)
		}
	}
}
