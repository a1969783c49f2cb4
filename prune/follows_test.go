package prune_test

import (
	"fmt"
	"slices"
	"strings"
	"testing"

	"rafter/api"
	"rafter/graph"
	"rafter/guard"
	"rafter/lang"
	"rafter/machine"
	"rafter/solver"
)

// graphOf answers the graph of a program.
func graphOf(t testing.TB, p *lang.Program) *graph.Graph {
	t.Helper()
	g, e := graph.Of(p)
	if e != api.OK {
		t.Fatalf("P10.1: %q: %v", p.Print(), e)
	}
	return g
}

// run answers where a run of a graph stands.
func run(t testing.TB, g *graph.Graph, choices []int, fuel int) api.Stand {
	t.Helper()
	s, e := machine.Run(g, choices, fuel)
	if e != api.OK {
		t.Fatalf("P11.5: %v", e)
	}
	return s
}

// sameEnd says whether two runs stand at the Exits of their graphs in one state, with as many choices used.
func sameEnd(one *graph.Graph, s api.Stand, other *graph.Graph, u api.Stand) bool {
	return s.Point == one.Exit() && u.Point == other.Exit() && say(s.State) == say(u.State) && s.Used == u.Used
}

// tryRuns draws runs of a program and of what is left of it, and fails the test, if the one comes to its end and the other one not as it must. It counts those that came there, by what became of the other one.
func tryRuns(t *testing.T, s *stream, text string, p, q *lang.Program, count map[string]int) {
	t.Helper()
	g, h := graphOf(t, p), graphOf(t, q)
	for range 6 {
		choices := s.choices(s.below(20))
		fuel := s.below(4) * s.below(60)
		one, other := run(t, g, choices, fuel), run(t, h, choices, fuel)
		if one.Point == g.Exit() {
			count["P18.3"]++
			if !sameEnd(g, one, h, other) || other.Steps > one.Steps {
				t.Fatalf("P18.3: %q with %v, %d: %v; pruned %v", text, choices, fuel, one, other)
			}
			if other.Steps < one.Steps {
				count["fewer steps"]++
			}
		}
		if other.Point == h.Exit() {
			all := run(t, g, choices, api.MaxFuel)
			switch {
			case sameEnd(g, all, h, other):
				count["P18.4"]++
			case all.Why == api.WhyStuck && all.Code == api.ErrTooBig, all.Steps == api.MaxFuel:
				count["not at its end"]++
			default:
				t.Fatalf("P18.4: %q with %v, %d: %v; pruned %v", text, choices, fuel, all, other)
			}
		}
	}
}

func TestRuns(t *testing.T) { // P18.3, P18.4, W11
	s := &stream{2}
	count := map[string]int{}
	drawn(t, s, 2500, func(text string, p, q *lang.Program) { tryRuns(t, s, text, p, q, count) })
	if count["P18.3"] < 2000 || count["P18.4"] < 2000 || count["fewer steps"] < 1000 {
		t.Errorf("too few of a kind were drawn: %v", count)
	}
}

func TestTooWideForTheWhole(t *testing.T) { // P18.4: a condition that is gone with its if is no longer reckoned
	p := parsed(t, "vars x; loop { x := K * x; } if x + x - x = x { skip; }")
	q := pruned(t, p)
	g, h := graphOf(t, p), graphOf(t, q)
	for _, turns := range []int{2, 16, 17} { // x is 2^(992 turns); of more than 16 turns it is wider than the machine's numbers
		choices := append(slices.Repeat([]int{1}, turns+1), 0) // x begins with 1
		one, other := run(t, g, choices, api.MaxFuel), run(t, h, choices, api.MaxFuel)
		if turns < 17 && !sameEnd(g, one, h, other) {
			t.Errorf("P18.4: %d: %d, %v; pruned %d, %v", turns, one.Point, one.Code, other.Point, other.Code)
		}
		if turns == 17 && (one.Code != api.ErrTooBig || other.Code != api.ErrTooBig) {
			t.Errorf("P11.3: %d: %v; pruned %v", turns, one.Code, other.Code)
		}
	}
	p = parsed(t, "vars x; loop { x := K * x; } if 4294967296 * M * x - 4294967296 * M * x = 0 { skip; }")
	q = pruned(t, p)
	if got := onOneLine(q); got != spelt("vars x;|loop {|x := K * x;|}") {
		t.Fatalf("P18.1: %s", got)
	}
	g, h = graphOf(t, p), graphOf(t, q)
	choices := append(slices.Repeat([]int{1}, 17), 0)
	one, other := run(t, g, choices, api.MaxFuel), run(t, h, choices, api.MaxFuel)
	if one.Why != api.WhyStuck || one.Code != api.ErrTooBig || other.Point != h.Exit() {
		t.Errorf("P18.4: %d, %v; pruned %d, %v", one.Point, one.Code, other.Point, other.Code)
	}
}

func TestTooLongForTheWhole(t *testing.T) { // P18.4: what is pruned needs fewer steps
	p := parsed(t, "vars x = 0; loop { "+strings.Repeat("skip; ", 20)+"x := x + 1; }")
	q := pruned(t, p)
	g, h := graphOf(t, p), graphOf(t, q)
	choices := append(slices.Repeat([]int{1}, 5000), 0)
	one, other := run(t, g, choices, api.MaxFuel), run(t, h, choices, api.MaxFuel)
	if one.Steps != api.MaxFuel || one.Point == g.Exit() {
		t.Errorf("P11.4: %d steps, at %d", one.Steps, one.Point)
	}
	if other.Point != h.Exit() || say(other.State) != "5000" || other.Used != 5001 || other.Steps != 15002 {
		t.Errorf("P18.4: %v", other)
	}
}

func TestNoMore(t *testing.T) { // P18.5: neither lines nor points nor edges; and pure stays pure
	s := &stream{3}
	count := map[string]int{}
	drawn(t, s, 1500, func(text string, p, q *lang.Program) {
		g, h := graphOf(t, p), graphOf(t, q)
		if len(q.Lines()) > len(p.Lines()) || h.Points() > g.Points() || len(h.Edges()) > len(g.Edges()) {
			t.Fatalf("P18.5: %q: %d points, %d edges; pruned %d, %d", text, g.Points(), len(g.Edges()), h.Points(), len(h.Edges()))
		}
		was, _ := guard.Pure(p)
		is, _ := guard.Pure(q)
		if was && !is || g.Pure() && !h.Pure() {
			t.Fatalf("P18.5: %q is pure, and pruned it is not", text)
		}
		count[fmt.Sprint(was, is)]++
	})
	if count["true true"] < 300 || count["false true"] < 30 || count["false false"] < 150 {
		t.Errorf("too few of a kind were drawn: %v", count)
	}
}

func TestImpliedStill(t *testing.T) { // P18.5: what is implied at the Exit is, when it is pruned
	s := &stream{4}
	rows, more, big := 0, 0, 0
	drawn(t, s, 1500, func(text string, p, q *lang.Program) {
		g, h := graphOf(t, p), graphOf(t, q)
		was, _ := solver.Solve(g)
		is, e := solver.Solve(h)
		if e != api.OK {
			big++
			return
		}
		if was.Dim(g.Exit()) < 0 {
			return
		}
		told := was.Rows(g.Exit())
		for range 3 {
			told = append(told, s.row(len(p.Vars())))
		}
		for _, row := range told {
			before, _ := was.Implied(g.Exit(), row)
			after, e := is.Implied(h.Exit(), row)
			if e != api.OK || before && !after {
				t.Fatalf("P18.5: %q: %s is implied, and pruned it is not", text, say(row))
			}
			if before {
				rows++
			}
		}
		if is.Dim(h.Exit()) < was.Dim(g.Exit()) {
			more++
		}
	})
	if rows < 1000 || more < 20 || big > 20 {
		t.Errorf("too few of a kind were drawn: %d rows, %d times more is known, %d times nothing is found", rows, more, big)
	}
}

func TestPrunedAgain(t *testing.T) { // P18.5, P8.9: what is left is a program like any other
	s := &stream{5}
	fired := map[string]int{}
	fewer := 0
	drawn(t, s, 1000, func(text string, p, q *lang.Program) {
		if len(q.Print()) > api.MaxText {
			return
		}
		again, e, at := lang.Parse(q.Print())
		if e != api.OK {
			t.Fatalf("P8.9: %q: %v at %v", q.Print(), e, at)
		}
		if again.Print() != q.Print() || sayLines(again) != sayLines(q) || fmt.Sprint(again.Begins()) != fmt.Sprint(q.Begins()) {
			t.Fatalf("P8.9: %q: %q; read again %q", text, q.Print(), again.Print())
		}
		if sayEdges(graphOf(t, again)) != sayEdges(graphOf(t, q)) {
			t.Fatalf("P8.9: %q: %s; read again %s", text, sayEdges(graphOf(t, q)), sayEdges(graphOf(t, again)))
		}
		if _, e := solver.Solve(graphOf(t, q)); e != api.OK {
			return
		}
		r := pruned(t, q)
		like(t, q.Print(), q, r, fired)
		if len(r.Lines()) < len(q.Lines()) {
			fewer++
		}
	})
	if fewer < 3 {
		t.Errorf("too few lose lines again: %d", fewer)
	}
}

// sayLines answers a program's lines but for their places.
func sayLines(p *lang.Program) string {
	l := p.Lines()
	for i := range l {
		l[i].At = api.Place{}
	}
	return fmt.Sprint(l)
}

// sayEdges answers a graph's edges but for their places, and its marks.
func sayEdges(g *graph.Graph) string {
	l := g.Edges()
	for i := range l {
		l[i].At = api.Place{}
	}
	out := fmt.Sprint(g.Points(), g.Exit(), l)
	for _, name := range g.Marks() {
		point, ok := g.Mark(name)
		out += fmt.Sprint(" ", name, point, ok)
	}
	return out
}

func TestOtherNames(t *testing.T) { // R4: blanks, comments, other signs and other names turn nothing but names
	one := pruned(t, parsed(t, "vars x = 2, y; y := x + 1; if x != 2 { } else { mark m; skip; } while x - y != -1 { stop; }"))
	two := pruned(t, parsed(t, "vars α₁=2,β;# so\nβ≔α₁+1;if α₁≠2{}else{mark n;skip;}while α₁−β≠−1{stop;}"))
	if onOneLine(one) != "vars x = 2, y;|y := 3;|mark m;" || onOneLine(two) != "vars α₁ = 2, β;|β := 3;|mark n;" {
		t.Errorf("R4: %s; %s", one.Print(), two.Print())
	}
}
