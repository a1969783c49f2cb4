package back_test

import (
	"math/big"
	"slices"
	"testing"

	"rafter/api"
	"rafter/back"
	"rafter/graph"
	"rafter/machine"
	"rafter/solver"
	"rafter/span"
)

func TestSound(t *testing.T) { // P16.5: from a state that is Met, at each stand of each run at the point
	s := &stream{3}
	stands, free, stuck := 0, 0, 0
	held(t, s, 450, func(text string, point int, row []api.Whole, n *back.Need, m *model) {
		for range 4 {
			q := s.below(len(m.needs))
			for _, state := range s.states(n, q, m.n) {
				if !met(t, n, q, state) {
					continue
				}
				choices := s.choices(s.below(25))
				run, e := machine.From(m.g, q, state, choices)
				if e != api.OK {
					t.Fatal(e)
				}
				for made := 1; made > 0 && run.Tell().Steps < 60; made = run.Go(1) {
					at := run.Tell()
					if at.Point != point {
						continue
					}
					stands++
					if len(m.needs[q]) > 0 && at.Steps > 3 {
						free++
					}
					if !meets(at.State, row) {
						t.Fatalf("P16.5: %q: %s is met at %d, but with %v the run stands in %s at %d, which does not meet %s", text, say(state), q, choices, say(at.State), point, say(row))
					}
				}
				if run.Tell().Why == api.WhyStuck {
					stuck++
				}
			}
		}
	})
	if stands < 3000 || free < 500 || stuck < 20 {
		t.Errorf("too few of a kind were drawn: %d stands, %d behind some steps, %d stuck", stands, free, stuck)
	}
}

// breaking answers the choices and the fuel with which a run goes from a need that is broken to the point that was asked for.
func (m *model) breaking(point, index int) (choices []int, fuel int) {
	x := m.needs[point][index]
	for ; x.edge >= 0; x = m.needs[m.edges[x.edge].To][x.of] {
		switch e := m.edges[x.edge]; e.Kind {
		case api.EdgePick:
			choices = append(choices, e.Take)
		case api.EdgeAny:
			choices = append(choices, x.value)
		}
		fuel++
	}
	return choices, fuel
}

func TestExact(t *testing.T) { // P16.6, W9: of a pure program, from a state that is not Met some run breaks the row
	s := &stream{4}
	broken, far, stuck := 0, 0, 0
	held(t, s, 600, func(text string, point int, row []api.Whole, n *back.Need, m *model) {
		if !m.g.Pure() {
			return
		}
		for q := range m.needs {
			for _, state := range s.states(n, q, m.n) {
				if met(t, n, q, state) {
					continue
				}
				choices, fuel := m.breaking(q, m.broken(q, bigs(state)))
				run, e := machine.From(m.g, q, state, choices)
				if e != api.OK {
					t.Fatal(e)
				}
				run.Go(fuel)
				switch at := run.Tell(); {
				case at.Why == api.WhyStuck && at.Code == api.ErrTooBig:
					stuck++
				case at.Point != point || at.Steps != fuel || meets(at.State, row):
					t.Fatalf("P16.6: %q: %s is not met at %d, but with %v the run stands in %s at %d, and not at %d in one that does not meet %s", text, say(state), q, choices, say(at.State), at.Point, point, say(row))
				}
				broken++
				if fuel > 8 {
					far++
				}
			}
		}
	})
	if broken < 8000 || far < 500 || stuck < 5 {
		t.Errorf("too few of a kind were drawn: %d, %d far ones, %d stuck", broken, far, stuck)
	}
}

func TestStuckRun(t *testing.T) { // P16.6: a run that would break the row may get stuck ahead of it
	text := "vars x, y; loop { y := 2 * y; } x := x + y;"
	g := graphed(t, text)
	n := found(t, g, g.Exit(), numbers("1 0 0"))
	wide := []api.Whole{{}, wholeOf(power(32*api.MaxWide-1, 0))}
	if met(t, n, g.Exit()-1, wide) {
		t.Error("P16.4: it is not met")
	}
	if met(t, n, 3, wide) { // nor behind 2 * y
		t.Error("P16.4: it is not met")
	}
	run, _ := machine.From(g, 1, wide, []int{1, 0})
	if run.Go(99); run.Tell().Why != api.WhyStuck || run.Tell().Code != api.ErrTooBig {
		t.Errorf("P16.6: %v", run.Tell().Why)
	}
}

func TestAlwaysIsImplied(t *testing.T) { // P16.7: by needs, and by samples
	s := &stream{6}
	count := map[bool]int{}
	held(t, s, 800, func(text string, point int, row []api.Whole, n *back.Need, m *model) {
		r, e := solver.Solve(m.g)
		if e != api.OK {
			return
		}
		want, e := r.Implied(point, row)
		if e != api.OK {
			t.Fatal(e)
		}
		if n.Always() != want {
			t.Fatalf("P16.7: %q: %s at %d: always %v, implied %v", text, say(row), point, n.Always(), want)
		}
		if m.looks > 0 {
			count[want]++
		}
	})
	if count[true] < 200 || count[false] < 200 {
		t.Errorf("too few of a kind were drawn: %v", count)
	}
}

func TestFewNeeds(t *testing.T) { // P16.7: at most n + 1 of a point; for each one a look at each edge that leads there
	s := &stream{7}
	held(t, s, 300, func(text string, point int, row []api.Whole, n *back.Need, m *model) {
		looks := 0
		for p, needs := range m.needs {
			looks += len(needs) * len(m.g.In(p))
			if met, _ := n.Span(p); len(needs) > m.n+1 || met.Dim() >= 0 && met.Dim() != m.n-len(needs) {
				t.Fatalf("P16.7: %q: %s at %d: %d needs at %d", text, say(row), point, len(needs), p)
			}
		}
		if n.Looks() != looks || looks > len(m.edges)*(m.n+1) {
			t.Fatalf("P16.7: %q: %s at %d: %d looks, want %d", text, say(row), point, n.Looks(), looks)
		}
	})
}

func TestToldByOthers(t *testing.T) { // P16.8: a sum of rows, each times a number, is met where these are
	s := &stream{8}
	states, many := 0, 0
	drawn(t, s, 400, func(text string, g *graph.Graph) {
		vars, point := len(g.Vars()), g.Exit()
		r, _ := solver.Solve(g)
		var rows [][]api.Whole
		var needs []*back.Need
		for range 1 + s.below(3) {
			row := s.nearly(r, point, vars)
			if need, e := back.Find(g, point, row); e == api.OK {
				rows, needs = append(rows, row), append(needs, need)
			}
		}
		sum := s.sum(vars, rows)
		all, e := back.Find(g, point, sum)
		if e != api.OK {
			return
		}
		for q := range g.Points() {
			within(t, text, q, vars, needs, all)
			for _, need := range needs {
				for _, state := range s.states(need, q, vars) {
					if slices.ContainsFunc(needs, func(x *back.Need) bool { return !met(t, x, q, state) }) {
						continue
					}
					states++
					if len(needs) > 1 {
						many++
					}
					if !met(t, all, q, state) {
						t.Fatalf("P16.8: %q: at %d %s is met for %s, but not for %s", text, q, say(state), sayRows(rows), say(sum))
					}
				}
			}
		}
	})
	if states < 1000 || many < 500 {
		t.Errorf("too few were drawn: %d, %d for more than one", states, many)
	}
}

// within fails the test, if the points that meet all needs of some do not lie within those of another.
func within(t *testing.T, text string, q, vars int, some []*back.Need, other *back.Need) {
	t.Helper()
	both, _ := span.All(vars)
	for _, x := range some {
		more, _ := x.Span(q)
		met, e := both.Meet(more)
		if e != api.OK {
			return
		}
		both = met
	}
	o, _ := other.Span(q)
	if in, e := both.Within(o); !in || e != api.OK {
		t.Fatalf("P16.8: %q: at %d %s do not lie within %s", text, q, sayRows(both.Rows()), sayRows(o.Rows()))
	}
}

func TestMovedAlong(t *testing.T) { // P16.2, W9: over each edge the points that are Met go to such
	s := &stream{9}
	kinds := make([]int, api.EdgeTest+1)
	held(t, s, 150, func(text string, point int, row []api.Whole, n *back.Need, m *model) {
		for i, e := range m.edges {
			from, _ := n.Span(e.From)
			to, _ := n.Span(e.To)
			code := api.OK
			switch e.Kind {
			case api.EdgeSet:
				from, code = from.Set(e.Var, e.Row)
			case api.EdgeAny, api.EdgeHard:
				from, code = from.Any(e.Var)
			}
			if code == api.ErrTooBig {
				continue
			}
			if in, code := from.Within(to); !in || code != api.OK {
				t.Fatalf("P16.2: %q, %s at %d: over the edge %d %s do not go to %s", text, say(row), point, i, sayRows(from.Rows()), sayRows(to.Rows()))
			}
			kinds[e.Kind]++
		}
		at, _ := n.Span(point)
		if holds, e := at.Holds(row); !holds || e != api.OK {
			t.Fatalf("P16.1: %q: %s at %d does not hold of %s", text, say(row), point, sayRows(at.Rows()))
		}
	})
	for kind, count := range kinds[1:] {
		if count < 100 {
			t.Errorf("too few edges of kind %d: %d", kind+1, count)
		}
	}
}

func TestAnyNumber(t *testing.T) { // P16.5, P16.6: 0 and 1 in the place of any number stand for all others
	g := graphed(t, "vars x, y, z; x := any; z := 3 * x + y;")
	n := found(t, g, g.Exit(), numbers("3 1 -1 0"))
	if got := sayRows(n.Rows(0)); got != "" || !n.Always() {
		t.Errorf("P16.4: %s", got)
	}
	one := found(t, g, g.Exit(), numbers("0 1 -1 0"))
	if got := sayRows(one.Rows(0)); got != "0 0 0 1" {
		t.Errorf("P16.4: %s", got)
	}
	for x := range 5 {
		run, _ := machine.From(g, 0, numbers("5 7 9"), []int{x - 2})
		run.Go(2)
		if z := toBig(run.Tell().State[2]); z.Cmp(big.NewInt(int64(3*(x-2)+7))) != 0 {
			t.Errorf("P16.5: %v", z)
		}
	}
}
