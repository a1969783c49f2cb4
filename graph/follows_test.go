package graph_test

import (
	"slices"
	"testing"

	"rafter/api"
	"rafter/graph"
	"rafter/guard"
)

// sameShape fails the test if what follows of every graph does not hold; stops are the points that a `stop` made.
func sameShape(t *testing.T, text string, g *graph.Graph, stops int) {
	t.Helper()
	edges := g.Edges()
	if len(edges) > 2*g.Points() {
		t.Fatalf("P10.5: %q: %d edges, %d points", text, len(edges), g.Points())
	}
	if g.Points() > api.MaxPoints || g.Points() < 1 || g.Exit() < 0 || g.Exit() >= g.Points() {
		t.Fatalf("P10.1: %q: %d points, Exit %d", text, g.Points(), g.Exit())
	}
	alone := 0
	for p := range g.Points() {
		if !leads(edges, g.Out(p)) {
			t.Fatalf("P10.4: %q: from point %d lead %v", text, p, g.Out(p))
		}
		if p > 0 && len(g.In(p)) == 0 {
			alone++
		}
	}
	if alone != stops {
		t.Fatalf("P10.5: %q: %d points without an edge to them, %d stops", text, alone, stops)
	}
	for _, e := range edges {
		if e.From < 0 || e.From >= g.Points() || e.To < 1 || e.To >= g.Points() {
			t.Fatalf("P10.1: %q: %s", text, shown(e))
		}
	}
}

// leads says whether edges with these numbers are such as may lead from one point, word for word as P10.4 does.
func leads(edges []api.Edge, l []int) bool {
	if len(l) == 0 {
		return true
	}
	first := edges[l[0]]
	switch first.Kind {
	case api.EdgePick:
		var takes []int
		for _, i := range l {
			if edges[i].Kind != api.EdgePick || edges[i].Many != len(l) {
				return false
			}
			takes = append(takes, edges[i].Take)
		}
		slices.Sort(takes)
		for i, take := range takes {
			if take != i {
				return false
			}
		}
		return true
	case api.EdgeTest:
		if len(l) != 2 {
			return false
		}
		other := edges[l[1]]
		return other.Kind == api.EdgeTest && first.Take+other.Take == 1 && first.Take*other.Take == 0 && say(first.Row...) == say(other.Row...)
	}
	return len(l) == 1 && first.Kind >= api.EdgeSkip && first.Kind <= api.EdgeHard
}

// drawn draws programs with a graph, and hands each one on.
func drawn(t *testing.T, s *stream, count int, do func(p *program, text string, g *graph.Graph, m *model)) {
	t.Helper()
	taken := 0
	for n := range count {
		p := s.program(2+n%3, n%5)
		names := plainNames(p)
		text := s.lay(p, names, false)
		m := modelOf(p, names)
		if len(text) > api.MaxText || m.points > api.MaxPoints || m.long {
			continue
		}
		taken++
		do(p, text, graphed(t, text), m)
	}
	if taken < count/2 {
		t.Errorf("too few were drawn: %d", taken)
	}
}

func TestShape(t *testing.T) { // P10.4, P10.5
	pure := 0
	drawn(t, &stream{3}, 3000, func(_ *program, text string, g *graph.Graph, m *model) {
		sameShape(t, text, g, len(m.stops))
		for p := range m.stops {
			if len(g.In(p)) > 0 {
				t.Fatalf("P10.5: %q: point %d, which a stop made, has an edge to it", text, p)
			}
		}
		want, _ := guard.Pure(parsed(t, text))
		if g.Pure() != want {
			t.Fatalf("P10.5: %q: Pure %v, guard.Pure %v", text, g.Pure(), want)
		}
		if want {
			pure++
		}
	})
	if pure < 300 || pure > 2500 {
		t.Errorf("too few of a kind were drawn: %d are pure", pure)
	}
}

func TestOtherSignsAndNames(t *testing.T) { // P10.6
	s := &stream{4}
	drawn(t, s, 3000, func(p *program, text string, g *graph.Graph, m *model) {
		for i, names := range []names{plainNames(p), otherNames(p)} {
			other := s.lay(p, names, true)
			if len(other) > api.MaxText {
				continue
			}
			h := graphed(t, other)
			if !slices.EqualFunc(bare(h.Edges()), bare(g.Edges()), equalEdge) || h.Points() != g.Points() || h.Exit() != g.Exit() || h.Pure() != g.Pure() {
				t.Fatalf("P10.6: %q and %q have not the same graph", text, other)
			}
			if i == 0 && (!slices.Equal(h.Vars(), g.Vars()) || !slices.Equal(h.Marks(), g.Marks())) {
				t.Fatalf("P10.6: %q and %q have not the same names", text, other)
			}
			state := s.state(len(p.begins))
			for edge := range m.edges {
				x, y, e := g.Reckon(edge, state)
				v, w, e2 := h.Reckon(edge, state)
				if e != e2 || say(x, y) != say(v, w) {
					t.Fatalf("P10.6: %q and %q: Reckon(%d): %s, %v; %s, %v", text, other, edge, say(x, y), e, say(v, w), e2)
				}
			}
			for j, name := range names.marks {
				at, ok := h.Mark(name)
				want, _ := g.Mark(plainNames(p).marks[j])
				if !ok || at != want {
					t.Fatalf("P10.6: %q and %q: Mark(%q): %d, %v; want %d", text, other, name, at, ok, want)
				}
			}
		}
	})
}
