package relate_test

import (
	"fmt"
	"slices"
	"strings"
	"testing"

	"rafter/api"
	"rafter/graph"
	"rafter/relate"
	"rafter/sketch"
)

func TestExamples(t *testing.T) { // the chapter's
	for _, x := range []struct {
		text, want string
	}{
		{"vars x, y; loop { x := x + 1; y := y + 2; }", "2*x - y - 2*x° + y° = 0\n"},
		{"vars x, y; x := x + y; y := x - y; x := x - y;", "x - y° = 0\ny - x° = 0\n"},
		{"vars x = 4;", "x = 4\nx° = 4\n"},
	} {
		g := graphed(t, x.text)
		if got, e := related(t, g).Print(g.Exit()); e != api.OK || got != x.want {
			t.Errorf("P17.3: %s: %q, %v; want %q", x.text, got, e, x.want)
		}
	}
}

func TestNames(t *testing.T) { // P17.1
	longest := strings.Repeat("n", api.MaxName-1)
	for _, x := range []struct{ text, want string }{
		{"vars;", ""},
		{"vars x;", "x x°"},
		{"vars x, y = 2;", "x y x° y°"},
		{"vars y, x;", "y x y° x°"},
		{"vars α₁, β;", "α₁ β α₁° β°"},
		{"vars x, xx, x_;", "x xx x_ x° xx° x_°"},
		{"vars " + longest + ";", longest + " " + longest + "°"},
		{"vars a, b, c, d, e, f, g, h;", "a b c d e f g h a° b° c° d° e° f° g° h°"},
	} {
		if got := strings.Join(relatedOf(t, x.text).Names(), " "); got != x.want {
			t.Errorf("P17.1: %s: %s; want %s", x.text, got, x.want)
		}
	}
}

// finds fails the test if the pairs of a point are not these.
func finds(t *testing.T, text string, point int, want string) {
	t.Helper()
	if got := sayRows(relatedOf(t, text).Samples(point)); got != spelt(want) {
		t.Errorf("P17.1 to P17.3: %s at %d: %s; want %s", text, point, got, want)
	}
}

func TestBeginning(t *testing.T) { // P17.2: the samples of point 0, twice over
	finds(t, "vars;", 0, "")
	finds(t, "vars x = -3;", 0, "-3 -3")
	finds(t, "vars x = 0;", 0, "0 0")
	finds(t, "vars x = -M, y = M;", 0, "-M M -M M")
	finds(t, "vars x;", 0, "0 0; 1 1")
	finds(t, "vars a, b = 4, c, d = -2;", 0, "0 4 0 -2 0 4 0 -2; 1 4 0 -2 1 4 0 -2; 0 4 1 -2 0 4 1 -2")
	r := relatedOf(t, "vars a, b, c, d, e, f, g, h;")
	if r.Dim(0) != 8 || len(r.Samples(0)) != 9 || len(r.Rows(0)) != 8 || say(r.Rows(0)[7]) != "0 0 0 0 0 0 0 1 0 0 0 0 0 0 0 -1 0" {
		t.Errorf("P17.2: %s", sayRows(r.Samples(0)))
	}
}

func TestEdges(t *testing.T) { // P17.2: each kind of edge moves the numbers at the point alone
	finds(t, "vars x = 7, y; skip;", 1, "7 0 7 0; 7 1 7 1")
	finds(t, "vars x = 7, y; x := 3 * y - 2 * x + 1;", 1, "-13 0 7 0; -10 1 7 1")
	finds(t, "vars x = 7, y; y := x;", 1, "7 7 7 0; 7 7 7 1") // from two beginnings to one state: two pairs
	finds(t, "vars x, y; x := y; y := x;", 2, "0 0 0 0; 0 0 1 0; 1 1 0 1")
	finds(t, "vars x = 7, y = 2; y := any;", 1, "7 0 7 2; 7 1 7 2")
	finds(t, "vars x = 7, y = 2; y := x * y;", 1, "7 0 7 2; 7 1 7 2")
	finds(t, "vars x = 7, y = 2; y := x / 2;", 1, "7 0 7 2; 7 1 7 2")
	finds(t, "vars x; x := any;", 1, "0 0; 1 0; 0 1")
	finds(t, "vars x, y = 2; y := any;", 1, "0 0 0 2; 0 1 0 2; 1 0 1 2")
	finds(t, "vars x = 7; x := 7 / 0;", 1, "0 7; 1 7") // no run comes there
	finds(t, "vars x = 7; choose { } or { x := 1; } or { }", 5, "7 7; 1 7")
	finds(t, "vars x = 7; if x = 8 { } else { x := 1; }", 4, "7 7; 1 7")
	finds(t, "vars x; if x * x != 49 { } else { x := 1; }", 4, "0 0; 1 1; 1 0")
	finds(t, "vars x = 7; while x = 0 { x := x + 2; }", 4, "7 7; 9 7")
	finds(t, "vars x; loop { x := x + 2; }", 4, "0 0; 1 1; 2 0")
	finds(t, "vars x; loop { x := 2 * x; }", 4, "0 0; 1 1; 2 1") // from 0 it comes to nothing else
}

func TestOrder(t *testing.T) { // P17.2: from the front, and edges by rising numbers
	// The shortest way comes first, wherever it stands.
	finds(t, "vars x = 0; choose { skip; x := 1; } or { x := 2; } or { skip; skip; x := 3; }", 10, "2 0; 1 0")
	// Of ways of one length the one with the lower edge.
	finds(t, "vars x = 0; choose { x := 1; } or { x := 2; } or { x := 3; }", 7, "1 0; 2 0")
	// Both images of an EdgeAny come ahead of those of the next pair.
	finds(t, "vars x = 3, y = 4; choose { } or { y := 5; } x := any;", 5, "0 4 3 4; 1 4 3 4; 0 5 3 4")
	// All beginnings come to a point ahead of what has gone round.
	finds(t, "vars x, y; loop { x := x + y; y := any; }", 1, "0 0 0 0; 1 0 1 0; 0 1 0 1; 0 1 0 0; 1 0 0 1")
	// As they are then: the hull of the first ones already holds the last one.
	finds(t, "vars x = 0, y = 0; choose { } or { x := 1; y := 1; } or { x := 2; y := 2; } or { x := 3; }", 10, "0 0 0 0; 3 0 0 0; 1 1 0 0")
}

func TestRounds(t *testing.T) { // P17.2: as many rounds as are needed, and no more
	r := relatedOf(t, "vars x, y = 0, z = 0; loop { x := x + 1; y := y + x; z := x + y; }")
	if got, want := sayRows(r.Samples(1)), "0 0 0 0 0 0; 1 0 0 1 0 0; 1 1 2 0 0 0; 2 2 4 1 0 0; 2 3 5 0 0 0"; got != want || r.Dim(1) != 4 {
		t.Errorf("P17.2: %s; want %s", got, want)
	}
	if got := sayRows(r.Rows(1)); got != "0 0 0 0 1 0 0; 0 0 0 0 0 1 0" {
		t.Errorf("P17.3: %s", got)
	}
}

func TestUnreached(t *testing.T) { // P17.2, P17.3: behind a stop there is nothing
	g := graphed(t, "vars x, y = 2; choose { stop; x := any; } or { stop; } mark m; y := x * x; loop { x := x + 1; }")
	r := related(t, g)
	for p := range g.Points() {
		before := p == 0 || p == 1 || p == 4
		if there := len(r.Samples(p)) > 0; there != before || (r.Dim(p) == -1) == before || (sayRows(r.Rows(p)) == "0 0 0 0 1") == before {
			t.Errorf("P17.3: %d: %s | %s, %d", p, sayRows(r.Samples(p)), sayRows(r.Rows(p)), r.Dim(p))
		}
	}
	m, _ := g.Mark("m")
	if text, e := r.Print(m); e != api.OK || text != "0 = 1\n" {
		t.Errorf("P17.3: %q, %v", text, e)
	}
	for _, row := range []string{"0 0 0 0 1", "3 P 7 -1 0", "0 0 0 0 0"} {
		if !implied(t, r, m, numbers(row)) {
			t.Errorf("P17.3: where no run comes each row is implied: %s", row)
		}
	}
	for _, equation := range []string{"x = x° + 1", "0 = 1", "y° = 5"} {
		if is, e, at := r.Text(m, equation); !is || e != api.OK || at != (api.Place{}) {
			t.Errorf("P17.3: where no run comes each equation is implied: %s: %v, %v, %v", equation, is, e, at)
		}
	}
}

func TestNoVariables(t *testing.T) { // P17.1, P17.3: over no variable there is one pair
	r := relatedOf(t, "vars; loop { skip; } choose { stop; } or { }")
	for p, want := range []string{"", "", "", "", "", "", "1", "", ""} {
		dim := []int{0, -1}[len(want)]
		if sayRows(r.Rows(p)) != want || r.Dim(p) != dim || len(r.Samples(p)) != dim+1 {
			t.Errorf("P17.3: %d: %q, %d; want %q", p, sayRows(r.Rows(p)), r.Dim(p), want)
		}
	}
	for row, want := range map[string]bool{"0": true, "5": false} {
		if implied(t, r, 0, numbers(row)) != want || !implied(t, r, 6, numbers(row)) {
			t.Errorf("P17.3: 0 = %s", row)
		}
	}
	if len(r.Names()) != 0 {
		t.Errorf("P17.1: %v", r.Names())
	}
}

// turning answers a program of 8 variables with long samples everywhere, as many points as there may be, and dimensions that come one by one.
func turning() string {
	var text strings.Builder
	text.WriteString("vars a, b, c, d, e, f, g, h; loop { ")
	for i := range api.MaxVars {
		name := sketch.Letters[i : i+1]
		fmt.Fprintf(&text, "%s := %d * %s; ", name, 2*i+3, name)
	}
	text.WriteString(strings.Repeat("skip; ", api.MaxPoints-12) + "}")
	return text.String()
}

func TestMost(t *testing.T) { // P17.2: a pair more than there are numbers, at each of as many points as there may be
	g := graphed(t, turning())
	r := related(t, g)
	if g.Points() != api.MaxPoints || r.Dim(1) != 2*api.MaxVars || len(r.Samples(1)) != 2*api.MaxVars+1 || len(r.Rows(1)) != 0 {
		t.Errorf("P17.2: %d points, %d, %s", g.Points(), r.Dim(1), sayRows(r.Rows(1)))
	}
	if r.Dim(0) != api.MaxVars || r.Dim(g.Exit()) != 2*api.MaxVars {
		t.Errorf("P17.2: %d, %d", r.Dim(0), r.Dim(g.Exit()))
	}
	for i, pair := range r.Samples(g.Exit()) {
		if !slices.EqualFunc(pair, r.Samples(1)[i], func(x, y api.Whole) bool { return toBig(x).Cmp(toBig(y)) == 0 }) {
			t.Errorf("P17.2: %d: %s", i, say(pair))
		}
	}
}

func TestOfNothing(t *testing.T) { // P17.2, R1, R2: nil, and a graph that no call answered
	for _, g := range []*graph.Graph{nil, {}} {
		if r, e := relate.Solve(g); r != nil || e != api.ErrArg {
			t.Errorf("P17.2: %v, %v", r, e)
		}
	}
}
