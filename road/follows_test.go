package road_test

import (
	"fmt"
	"strings"
	"testing"

	"rafter/api"
	"rafter/machine"
	"rafter/road"
	"rafter/sketch"
	"rafter/solver"
)

// eachSample hands on each sample of each point, with what the calls tell of it.
func eachSample(t *testing.T, text string, r *solver.Result, do func(at spot, x api.Sample, w api.Road, choices []int, s api.Stand)) {
	t.Helper()
	for p := range r.Graph().Points() {
		for i, x := range r.Samples(p) {
			w, a := road.To(r, p, i)
			choices, _, _, b := road.Choices(r, p, i)
			s, c := road.Walk(r, p, i)
			if a != api.OK || b != api.OK || c != api.OK {
				t.Fatalf("P13.2: %q at %d, %d: %v, %v, %v", text, p, i, a, b, c)
			}
			do(spot{p, i}, x, w, choices, s)
		}
	}
}

// arrives fails the test, if a walk does not come to the sample with all choices used.
func arrives(t *testing.T, text string, at spot, x api.Sample, w api.Road, choices []int, s api.Stand) {
	t.Helper()
	if s.Point != at.point || say(s.State) != say(x.State) || s.Steps != len(w.Edges) || s.Used != len(choices) {
		t.Fatalf("P13.5: %q %v: %s; want %s behind %d steps, %d used", text, at, sayStand(s), say(x.State), len(w.Edges), len(choices))
	}
}

func TestWalks(t *testing.T) { // P13.4, P13.5, P13.7
	s := &stream{2}
	pure, mixed, astray, came := 0, 0, 0, 0
	held(t, s, 500, func(text string, r *solver.Result) {
		g := r.Graph()
		eachSample(t, text, r, func(at spot, x api.Sample, w api.Road, choices []int, s api.Stand) {
			run, e := machine.Run(g, choices, len(w.Edges))
			if e != api.OK || sayStand(s) != sayStand(run) {
				t.Fatalf("P13.4: %q %v: %s; want %s", text, at, sayStand(s), sayStand(run))
			}
			if g.Pure() && !w.Sure {
				t.Fatalf("P13.7: %q %v: %s", text, at, sayRoad(w))
			}
			switch {
			case w.Sure && g.Pure():
				pure++
			case w.Sure:
				mixed++
			case s.Point == at.point && say(s.State) == say(x.State):
				came++
			default:
				astray++
			}
			if w.Sure {
				arrives(t, text, at, x, w, choices, s)
			}
		})
	})
	if pure < 1500 || mixed < 500 || astray < 1000 || came < 300 {
		t.Errorf("too few of a kind were drawn: %d of pure programs, %d sure ones of others, %d that go astray, %d that do not", pure, mixed, astray, came)
	}
}

func TestLinked(t *testing.T) { // P13.1, P13.6: a road begins at point 0, is linked by its edges, ends at the sample, and no sample stands twice on it
	s := &stream{3}
	held(t, s, 300, func(text string, r *solver.Result) {
		g := r.Graph()
		edges, all := g.Edges(), 0
		for p := range g.Points() {
			all += len(r.Samples(p))
		}
		eachSample(t, text, r, func(at spot, x api.Sample, w api.Road, _ []int, _ api.Stand) {
			n := len(w.Edges)
			if len(w.Points) != n+1 || len(w.Indexes) != n+1 || w.Points[0] != 0 || r.Samples(0)[w.Indexes[0]].Edge != -1 || w.Points[n] != at.point || w.Indexes[n] != at.index {
				t.Fatalf("P13.1: %q %v: %s", text, at, sayRoad(w))
			}
			seen := map[spot]int{}
			for i := range w.Points {
				seen[spot{w.Points[i], w.Indexes[i]}]++
			}
			for i, e := range w.Edges {
				if edges[e].From != w.Points[i] || edges[e].To != w.Points[i+1] {
					t.Fatalf("P13.1: %q %v: %s", text, at, sayRoad(w))
				}
			}
			if len(seen) != n+1 || n >= all || n > g.Points()*(len(g.Vars())+1) {
				t.Fatalf("P13.6: %q %v: %s", text, at, sayRoad(w))
			}
		})
	})
}

// handed answers a program of MaxPoints points in whose loop a number is handed on from variable to variable: each round finds one more dimension.
func handed() string {
	var out strings.Builder
	out.WriteString("vars a = 0, b = 0, c = 0, d = 0, e = 0, f = 0, g = 0, h = 0; loop { ")
	for v := api.MaxVars - 1; v > 0; v-- {
		fmt.Fprintf(&out, "%c := %c; ", sketch.Letters[v], sketch.Letters[v-1])
	}
	out.WriteString("a := 2 * a + 1; ")
	out.WriteString(strings.Repeat("skip; ", api.MaxPoints-5-api.MaxVars))
	out.WriteString("} skip;")
	return out.String()
}

func TestFar(t *testing.T) { // P13.5, P13.6: as far as a road goes, round by round
	r := solved(t, handed())
	exit := r.Graph().Exit()
	if r.Graph().Points() != api.MaxPoints || len(r.Samples(exit)) != api.MaxVars+1 {
		t.Fatalf("%d points, %d samples", r.Graph().Points(), len(r.Samples(exit)))
	}
	for i, x := range r.Samples(exit) {
		w, _ := road.To(r, exit, i)
		choices, _, _, _ := road.Choices(r, exit, i)
		s, _ := road.Walk(r, exit, i)
		arrives(t, "handed", spot{exit, i}, x, w, choices, s)
		if rounds := i * (api.MaxPoints - 3); len(w.Edges) != rounds+3 { // round by round one sample more
			t.Errorf("P13.1: %d: %d edges", i, len(w.Edges))
		}
	}
}

func TestLongNumbers(t *testing.T) { // P13.5: states of numbers as long as can be told
	r := solved(t, "vars x = N, y; choose { x := x + 2; } or { x := K - x; } y := x;")
	count := 0
	eachSample(t, "long", r, func(at spot, x api.Sample, w api.Road, choices []int, s api.Stand) {
		arrives(t, "long", at, x, w, choices, s)
		if len(s.State[0].Mag) == api.MaxLimbs {
			count++
		}
	})
	if count < 8 {
		t.Errorf("too few long ones: %d", count)
	}
}

func TestOtherNames(t *testing.T) { // R4: blanks, comments, other signs and other names turn nothing
	one := solved(t, "vars x = 0, y; loop { x := x + 1; y := 2 * x - 1; } mark m; y := any;")
	two := solved(t, "vars α₁ = 0,β;# so\nloop{α₁≔α₁+1;β≔2·α₁−1;}mark n;β≔any;")
	if toldAll(one) != toldAll(two) {
		t.Errorf("R4: %s; %s", toldAll(one), toldAll(two))
	}
}
