package relate_test

import (
	"slices"
	"strings"
	"testing"

	"rafter/api"
	"rafter/graph"
	"rafter/lang"
	"rafter/machine"
	"rafter/relate"
	"rafter/sketch"
	"rafter/solver"
)

// twin answers the graph of a program that first of all copies each of its variables into one of its own, and then goes on as text does: what the solver finds of it must be what is found of text's pairs, so many points later. False, if it has too many variables or points.
func twin(text string, vars int) (*graph.Graph, bool) {
	head, body, _ := strings.Cut(text, ";")
	var copies strings.Builder
	for v := range vars {
		name := sketch.Letters[v : v+1]
		head += ", " + strings.ToUpper(name) + " = 0"
		copies.WriteString(strings.ToUpper(name) + " := " + name + "; ")
	}
	p, e, _ := lang.Parse(head + "; " + copies.String() + body)
	if e != api.OK {
		return nil, false
	}
	g, e := graph.Of(p)
	return g, e == api.OK
}

// twins draws programs that have a twin, and hands on what is found of both. Where the one is too big, both must be.
func twins(t *testing.T, s *stream, count int, do func(text string, g *graph.Graph, r *relate.Relation, two *solver.Result)) {
	t.Helper()
	drawn(t, s, count, func(text string, g *graph.Graph) {
		h, ok := twin(text, len(g.Vars()))
		if !ok {
			return
		}
		r, e := relate.Solve(g)
		two, f := solver.Solve(h)
		if e != f {
			t.Fatalf("P17.2: %q: %v; with copies %v", text, e, f)
		}
		if e == api.OK {
			do(text, g, r, two)
		}
	})
}

func TestTwins(t *testing.T) { // P17.2, P17.3: of pairs it is what chapter 12 says of states
	s := &stream{3}
	points, apart := 0, 0
	twins(t, s, 800, func(text string, g *graph.Graph, r *relate.Relation, two *solver.Result) {
		n := len(g.Vars())
		for p := range g.Points() {
			var want [][]api.Whole
			for _, x := range two.Samples(p + n) {
				want = append(want, x.State)
			}
			if got := r.Samples(p); sayRows(got) != sayRows(want) {
				t.Fatalf("P17.2: %q at %d: %s; want %s", text, p, sayRows(got), sayRows(want))
			}
			if got, want := r.Rows(p), two.Rows(p+n); sayRows(got) != sayRows(want) || r.Dim(p) != two.Dim(p+n) {
				t.Fatalf("P17.3: %q at %d: %s; want %s", text, p, sayRows(got), sayRows(want))
			}
			for _, row := range s.rowsOf(r, p) {
				want, e := two.Implied(p+n, row)
				if got := implied(t, r, p, row); got != want || e != api.OK {
					t.Fatalf("P17.3: %q at %d: %s: %v", text, p, say(row), got)
				}
			}
			points++
			if r.Dim(p) > n {
				apart++
			}
		}
	})
	if points < 3000 || apart < 100 {
		t.Errorf("too few of a kind were drawn: %d, %d", points, apart)
	}
}

// road answers the choices with which a run goes the way of a sample, and how many steps it makes.
func road(r *solver.Result, point, index int) (choices []int, steps int) {
	edges := r.Graph().Edges()
	var back []int
	x := r.Samples(point)[index]
	for ; x.Edge >= 0; x = r.Samples(x.Point)[x.Index] {
		switch e := edges[x.Edge]; e.Kind {
		case api.EdgePick:
			back = append(back, e.Take)
		case api.EdgeAny:
			back = append(back, x.Value)
		}
		steps++
	}
	for v, b := range r.Graph().Begins() {
		if b.Any && v == x.Value {
			choices = append(choices, 1)
		} else if b.Any {
			choices = append(choices, 0)
		}
	}
	slices.Reverse(back)
	return append(choices, back...), steps
}

// ranTo answers the state in which a run stands, with the one in which it began. It fails the test if the run does not stand at the point behind so many steps.
func ranTo(t *testing.T, g *graph.Graph, choices []int, steps, point int) []api.Whole {
	t.Helper()
	first, e := machine.Run(g, choices, 0)
	at, f := machine.Run(g, choices, steps)
	if e != api.OK || f != api.OK || at.Point != point || at.Steps != steps {
		t.Fatalf("a run with %v stands at %d behind %d steps, not at %d", choices, at.Point, at.Steps, point)
	}
	return slices.Concat(at.State, first.State)
}

func TestExact(t *testing.T) { // P17.5, W10: of a pure program a run makes each pair, so one breaks each row that is not implied
	s := &stream{6}
	pairs, far, broken := 0, 0, 0
	twins(t, s, 700, func(text string, g *graph.Graph, r *relate.Relation, two *solver.Result) {
		if !g.Pure() {
			return
		}
		n := len(g.Vars())
		for p := range g.Points() {
			var ran [][]api.Whole
			for i, pair := range r.Samples(p) {
				choices, steps := road(two, p+n, i) // n of these steps copy
				ran = append(ran, ranTo(t, g, choices, steps-n, p))
				if say(ran[i]) != say(pair) {
					t.Fatalf("P17.5: %q: a run with %v makes %s at %d, not %s", text, choices, say(ran[i]), p, say(pair))
				}
				pairs++
				if steps-n > 15 {
					far++
				}
			}
			for _, row := range s.rowsOf(r, p) {
				breaks := slices.ContainsFunc(ran, func(pair []api.Whole) bool { return !meets(pair, row) })
				if implied(t, r, p, row) == breaks {
					t.Fatalf("P17.5: %q at %d: %s is broken by a run: %v", text, p, say(row), breaks)
				}
				if breaks {
					broken++
				}
			}
		}
	})
	if pairs < 3000 || far < 100 || broken < 3000 {
		t.Errorf("too few of a kind were drawn: %d pairs, %d far ones, %d rows", pairs, far, broken)
	}
}
