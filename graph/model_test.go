package graph_test

import (
	"math"
	"slices"
	"testing"

	"rafter/api"
	"rafter/graph"
	"rafter/guard"
)

// model is the graph that a drawn program must have, made word for word as P10.1 says.
type model struct {
	names
	points int
	exit   int
	edges  []api.Edge
	sides  [][]string // of each edge: the texts of what is reckoned of it
	marked []int      // of each mark, in the order of the text, its point
	given  []string   // the marks
	starts []int      // where each statement begins, in the order of the text
	stops  map[int]bool
	long   bool
}

// modelOf answers the graph of a program that was laid with these names.
func modelOf(p *program, n names) *model {
	m := &model{names: n, points: 1, stops: map[int]bool{}}
	m.exit = m.row(p.body, 0)
	return m
}

// made answers a new point.
func (m *model) made() int {
	m.points++
	return m.points - 1
}

// edge makes an edge.
func (m *model) edge(k *sketch, from, to int, e api.Edge, sides ...string) {
	e.From, e.To, e.At = from, to, k.at
	m.edges = append(m.edges, e)
	m.sides = append(m.sides, sides)
}

func (m *model) row(l []*sketch, p int) int {
	for _, k := range l {
		m.starts = append(m.starts, p)
		p = m.statement(k, p)
	}
	return p
}

func (m *model) statement(k *sketch, p int) int {
	skip := api.Edge{Kind: api.EdgeSkip}
	switch k.kind {
	case api.LineSet:
		return m.assignment(k, p)
	case api.LineAny:
		q := m.made()
		m.edge(k, p, q, api.Edge{Kind: api.EdgeAny, Var: k.v})
		return q
	case api.LineSkip:
		q := m.made()
		m.edge(k, p, q, skip)
		return q
	case api.LineStop:
		q := m.made()
		m.stops[q] = true
		return q
	case api.LineMark:
		m.marked = append(m.marked, p)
		m.given = append(m.given, m.names.marks[k.mark])
		return p
	}
	return m.nested(k, p, skip)
}

func (m *model) nested(k *sketch, p int, skip api.Edge) int {
	switch k.kind {
	case api.LineChoose:
		var ends []int
		for i, block := range k.blocks {
			a := m.made()
			m.edge(k, p, a, api.Edge{Kind: api.EdgePick, Take: i, Many: len(k.blocks)})
			ends = append(ends, m.row(block, a))
		}
		j := m.made()
		for _, end := range ends {
			m.edge(k, end, j, skip)
		}
		return j
	case api.LineLoop:
		h := m.made()
		m.edge(k, p, h, skip)
		b := m.made()
		m.edge(k, h, b, api.Edge{Kind: api.EdgePick, Take: 1, Many: 2})
		end := m.row(k.blocks[0], b)
		m.edge(k, end, h, skip)
		o := m.made()
		m.edge(k, h, o, api.Edge{Kind: api.EdgePick, Take: 0, Many: 2})
		return o
	case api.LineIf:
		a := m.made()
		m.test(k, p, a, true)
		end := m.row(k.blocks[0], a)
		b := m.made()
		m.test(k, p, b, false)
		end2 := b
		if len(k.blocks) == 2 {
			end2 = m.row(k.blocks[1], b)
		}
		j := m.made()
		m.edge(k, end, j, skip)
		m.edge(k, end2, j, skip)
		return j
	}
	h := m.made()
	m.edge(k, p, h, skip)
	b := m.made()
	m.test(k, h, b, true)
	end := m.row(k.blocks[0], b)
	m.edge(k, end, h, skip)
	o := m.made()
	m.test(k, h, o, false)
	return o
}

func (m *model) assignment(k *sketch, p int) int {
	q := m.made()
	text := m.text(k.left)
	form, ok, e, _ := guard.Affine(text, m.vars)
	if e != api.OK {
		panic("no expression: " + text)
	}
	if !ok {
		m.edge(k, p, q, api.Edge{Kind: api.EdgeHard, Var: k.v}, text)
		return q
	}
	for _, x := range form {
		m.long = m.long || toBig(x).BitLen() > 32*api.MaxLimbs
	}
	m.edge(k, p, q, api.Edge{Kind: api.EdgeSet, Var: k.v, Row: form})
	return q
}

// test makes an EdgeTest that is gone if the condition holds, or if it does not.
func (m *model) test(k *sketch, from, to int, holds bool) {
	left, right := m.text(k.left), m.text(k.right)
	row, _, equals, e, _ := guard.Cond(left+k.sign+right, m.vars)
	if e != api.OK {
		panic("no condition: " + left + k.sign + right)
	}
	take := 0
	if holds == equals {
		take = 1
	}
	m.edge(k, from, to, api.Edge{Kind: api.EdgeTest, Take: take, Row: row}, left, right)
}

// sameGraph fails the test if the graph of a text is not that of the model.
func sameGraph(t *testing.T, text string, g *graph.Graph, m *model) {
	t.Helper()
	if got := g.Edges(); !slices.EqualFunc(got, m.edges, equalEdge) {
		t.Fatalf("P10.1: Edges of %q: %v, want %v", text, got, m.edges)
	}
	if g.Points() != m.points || g.Exit() != m.exit {
		t.Fatalf("P10.2: %q has %d points, Exit %d; want %d, %d", text, g.Points(), g.Exit(), m.points, m.exit)
	}
	if !slices.Equal(g.Vars(), m.vars) {
		t.Fatalf("P10.2: Vars of %q: %q", text, g.Vars())
	}
	if !slices.Equal(g.Marks(), m.given) {
		t.Fatalf("P10.2: Marks of %q: %q, want %q", text, g.Marks(), m.given)
	}
	for i, name := range m.given {
		if p, ok := g.Mark(name); !ok || p != m.marked[i] {
			t.Fatalf("P10.2: Mark(%q) of %q: %d, %v; want %d", name, text, p, ok, m.marked[i])
		}
	}
	for _, p := range []int{-1, g.Points(), math.MaxInt, math.MinInt} {
		if len(g.Out(p)) > 0 || len(g.In(p)) > 0 {
			t.Fatalf("P10.2: %q: there is no point %d", text, p)
		}
	}
	for p := range g.Points() {
		sameNumbers(t, text, g, p)
	}
}

// sameNumbers fails the test if Out and In of a point do not go with Edges.
func sameNumbers(t *testing.T, text string, g *graph.Graph, point int) {
	t.Helper()
	var out, in []int
	for i, e := range g.Edges() {
		if e.From == point {
			out = append(out, i)
		}
		if e.To == point {
			in = append(in, i)
		}
	}
	if !slices.Equal(g.Out(point), out) || !slices.Equal(g.In(point), in) {
		t.Fatalf("P10.2: %q: Out(%d) = %v, In = %v; want %v, %v", text, point, g.Out(point), g.In(point), out, in)
	}
}
