package solver_test

import (
	"math"
	"slices"
	"strings"
	"testing"

	"rafter/api"
	"rafter/graph"
	"rafter/solver"
)

// The search by itself, as other layers call it.

// tally keeps numbers, and how many edges they came along.
type tally struct {
	numbers []api.Whole
	edges   int
}

func (x tally) Numbers() []api.Whole { return x.numbers }

func (x tally) Next(to api.Sample) tally { return tally{to.State, x.edges + 1} }

// tallies answers what is kept of lists of numbers, a text each.
func tallies(texts ...string) []tally {
	var out []tally
	for _, text := range texts {
		out = append(out, tally{numbers(text), 0})
	}
	return out
}

// sayTallies answers what is kept as a text: the numbers, and in brackets how many edges they came along.
func sayTallies(l []tally) string {
	var out []string
	for _, x := range l {
		out = append(out, say(x.numbers)+" "+strings.Repeat("+", x.edges))
	}
	return strings.Join(out, ";")
}

func TestBegin(t *testing.T) { // P12.1, P12.3: it tells the samples of point 0
	s := &stream{12}
	held(t, s, 300, func(text string, r *solver.Result) {
		l, e := solver.Begin(r.Graph())
		if got, want := saySamples(l), saySamples(r.Samples(0)); e != api.OK || got != want {
			t.Fatalf("P12.1: %q: %s, %v; want %s", text, got, e, want)
		}
	})
	for _, g := range []*graph.Graph{nil, {}} {
		if l, e := solver.Begin(g); len(l) > 0 || e != api.ErrArg {
			t.Errorf("P12.4: %v, %v", l, e)
		}
	}
}

func TestBeginApart(t *testing.T) { // R3
	g := graphed(t, "vars a = 4294967297, b = 4294967297, c;")
	want := "4294967297 4294967297 0; 4294967297 4294967297 1"
	l, _ := solver.Begin(g)
	var all [][]uint32
	for _, x := range l {
		for _, y := range x.State {
			all = append(all, y.Mag)
		}
	}
	apart(t, "Begin", all)
	wipeNumbers(l[0].State)
	if again, _ := solver.Begin(g); sayStates(again) != want || sayStates(solved(t, "vars a = 4294967297, b = 4294967297, c;").Samples(0)) != want {
		t.Errorf("R3: %s", sayStates(again))
	}
}

func TestSearch(t *testing.T) { // P12.2, of more numbers than there are variables: the others stay what they were
	g := graphed(t, "vars x, y; loop { x := x + 1; y := any; }")
	points, looks, e := solver.Search(g, tallies("0 0 5", "2 3 7"), 3)
	if e != api.OK || len(points) != g.Points() {
		t.Fatalf("P12.2: %v", e)
	}
	for point, want := range []string{"0 0 5 ;2 3 7 ", "0 0 5 +;2 3 7 +;1 0 5 +++++;1 1 5 +++++"} {
		if at, ok := points.At(point); !ok || sayTallies(at.Samples) != want {
			t.Errorf("P12.2: %d: %s; want %s", point, sayTallies(at.Samples), want)
		}
	}
	sum := 0
	for _, edge := range g.Edges() {
		at, _ := points.At(edge.From)
		sum += len(at.Samples)
	}
	if looks != sum {
		t.Errorf("P12.11: %d looks; want %d", looks, sum)
	}
	if points.Dim(0) != 1 || points.Dim(1) != 3 || len(points.Rows(1)) != 0 || sayRows(points.Rows(0)) != "1 0 -1 -5; 0 2 -3 -15" {
		t.Errorf("P12.5: %d, %d, %s", points.Dim(0), points.Dim(1), sayRows(points.Rows(0)))
	}
	if text, e := points.Print(0, []string{"x", "y", "z"}); text != "x - z = -5\n2*y - 3*z = -15\n" || e != api.OK {
		t.Errorf("P12.8: %q, %v", text, e)
	}
}

func TestSearchMovesTheFirst(t *testing.T) { // P12.2: a form is of the variables, whatever stands behind them
	points, _, e := solver.Search(graphed(t, "vars x, y; x := 10 * x + y; y := 2 * x + 7;"), tallies("1 2 5 9"), 4)
	if e != api.OK {
		t.Fatalf("P12.2: %v", e)
	}
	for point, want := range []string{"1 2 5 9 ", "12 2 5 9 +", "12 31 5 9 ++"} {
		if got := sayTallies(points[point].Samples); got != want {
			t.Errorf("P12.2: %d: %s; want %s", point, got, want)
		}
	}
}

func TestSearchFromNothing(t *testing.T) { // P12.2: of no sample comes none
	points, looks, e := solver.Search[tally](graphed(t, "vars x; loop { x := x + 1; }"), nil, 1)
	if e != api.OK || looks != 0 || len(points) != 5 {
		t.Fatalf("P12.2: %d, %d looks, %v", len(points), looks, e)
	}
	for p := range points {
		if is, e := points.Implied(p, numbers("0 1")); !is || e != api.OK || points.Dim(p) != -1 || sayRows(points.Rows(p)) != "0 1" {
			t.Errorf("P12.5: %d: %v, %v", p, is, e)
		}
	}
}

func TestSearchRefuses(t *testing.T) { // R1, R2: lengths that don't go together, and nothing to go through
	g := graphed(t, "vars x, y; x := y;")
	for _, x := range []struct {
		g      *graph.Graph
		begins []tally
		n      int
		want   api.Errno
	}{
		{nil, nil, 2, api.ErrArg}, {&graph.Graph{}, nil, 0, api.ErrArg},
		{g, nil, 1, api.ErrArg}, {g, nil, 0, api.ErrArg}, {g, nil, -1, api.ErrArg}, {g, nil, math.MinInt, api.ErrArg}, {g, nil, math.MaxInt, api.ErrArg}, {g, nil, 2*api.MaxVars + 1, api.ErrArg},
		{g, tallies("1 2"), 3, api.ErrArg}, {g, tallies("1 2 3"), 2, api.ErrArg}, {g, tallies("1 2", "1"), 2, api.ErrArg}, {g, tallies("", "1 2"), 2, api.ErrArg}, {g, tallies("1"), 1, api.ErrArg},
		{g, tallies("P 0"), 2, api.ErrTooBig}, {g, tallies("0 0 P"), 3, api.ErrTooBig}, {g, tallies("M 0 0", "0 N 0"), 3, api.ErrTooBig},
		{g, nil, 2, api.OK}, {g, nil, 2 * api.MaxVars, api.OK}, {g, tallies("M 0 -M"), 3, api.OK}, {g, tallies("M 0 0", "M 0 0"), 3, api.OK},
	} {
		points, looks, e := solver.Search(x.g, x.begins, x.n)
		if e != x.want || e != api.OK && (points != nil || looks != 0) {
			t.Errorf("R2: %d numbers: %d points, %d looks, %v; want %v", x.n, len(points), looks, e, x.want)
		}
	}
}

func TestSearchNotKept(t *testing.T) { // R3: the samples of the beginning stay as they are
	begins := tallies("0 0 5", "2 3 7")
	was := sayTallies(begins)
	g := graphed(t, "vars x, y; skip; x := y + 1; y := any;")
	one, _, _ := solver.Search(g, begins, 3)
	two, _, _ := solver.Search(g, slices.Clone(begins), 3)
	if sayTallies(begins) != was || sayTallies(one[3].Samples) != sayTallies(two[3].Samples) {
		t.Errorf("R3: %s; was %s", sayTallies(begins), was)
	}
}

func TestNoPointFound(t *testing.T) { // P12.5 to P12.8: of what a search found
	points, _, _ := solver.Search(graphed(t, "vars x, y; x := y;"), tallies("1 2 3"), 3)
	for _, p := range nowhere(len(points)) {
		if at, ok := points.At(p); ok || at.Samples != nil || at.Hull != nil || points.Dim(p) != -1 || len(points.Rows(p)) != 0 {
			t.Errorf("P12.5: %d: %v", p, at)
		}
		if is, e := points.Implied(p, nil); is || e != api.ErrPoint {
			t.Errorf("P12.6: %d: %v, %v", p, is, e)
		}
		if text, e := points.Print(p, nil); text != "" || e != api.ErrPoint {
			t.Errorf("P12.8: %d: %q, %v", p, text, e)
		}
	}
	if is, e := points.Implied(0, numbers("1 2 3")); is || e != api.ErrArg {
		t.Errorf("P12.6: %v, %v", is, e)
	}
	if text, e := points.Print(0, []string{"x", "y"}); text != "" || e != api.ErrArg {
		t.Errorf("P12.8: %q, %v", text, e)
	}
}
