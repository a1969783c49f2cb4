package machine_test

import (
	"math/big"
	"slices"
	"testing"

	"rafter/api"
	"rafter/graph"
)

// model is a run along a graph's edges, made word for word as P11.1 to P11.4 say.
type model struct {
	g       *graph.Graph
	choices []int
	api.Stand
}

// modelOf answers the model of a run at its beginning.
func modelOf(g *graph.Graph, choices []int) *model {
	m := &model{g: g, choices: choices}
	for _, b := range g.Begins() {
		x := b.Value
		if b.Any {
			x = api.Whole{}
			if m.Used < len(choices) {
				x = wholeOf(big.NewInt(int64(choices[m.Used])))
				m.Used++
			}
		}
		m.State = append(m.State, x)
	}
	return m
}

// leads answers the one edge of those from the point that has this Take.
func (m *model) leads(take int) api.Edge {
	for _, i := range m.g.Out(m.Point) {
		if e := m.g.Edges()[i]; e.Take == take {
			return e
		}
	}
	panic("no edge with that Take")
}

// step answers the edge along which a step goes, what its variable becomes, and how many choices it uses; or why none can be made.
func (m *model) step() (e api.Edge, x *api.Whole, uses, why int, code api.Errno) {
	out := m.g.Out(m.Point)
	if len(out) == 0 {
		return e, nil, 0, api.WhyEnd, api.OK
	}
	e = m.g.Edges()[out[0]]
	if e.Kind == api.EdgePick || e.Kind == api.EdgeAny {
		if m.Used == len(m.choices) {
			return e, nil, 0, api.WhyWait, api.OK
		}
		c := big.NewInt(int64(m.choices[m.Used]))
		if e.Kind == api.EdgePick {
			return m.leads(int(c.Mod(c, big.NewInt(int64(e.Many))).Int64())), nil, 1, api.WhyGo, api.OK
		}
		y := wholeOf(c)
		return e, &y, 1, api.WhyGo, api.OK
	}
	switch e.Kind {
	case api.EdgeSet:
		y := formed(e.Row, m.State)
		if tooWide(y) {
			return e, nil, 0, api.WhyStuck, api.ErrTooBig
		}
		z := wholeOf(y)
		return e, &z, 0, api.WhyGo, api.OK
	case api.EdgeHard, api.EdgeTest:
		y, z, code := m.g.Reckon(out[0], m.State)
		switch {
		case code != api.OK:
			return e, nil, 0, api.WhyStuck, code
		case e.Kind == api.EdgeHard:
			return e, &y, 0, api.WhyGo, api.OK
		case toBig(y).Cmp(toBig(z)) == 0:
			return m.leads(1), nil, 0, api.WhyGo, api.OK
		}
		return m.leads(0), nil, 0, api.WhyGo, api.OK
	}
	return e, nil, 0, api.WhyGo, api.OK
}

// formed answers the sum of factor times state, and what is added.
func formed(f, state []api.Whole) *big.Int {
	out := toBig(f[len(state)])
	for i, x := range state {
		out.Add(out, new(big.Int).Mul(toBig(f[i]), toBig(x)))
	}
	return out
}

// run makes at most so many steps, and tells where the model stands then.
func (m *model) run(fuel int) api.Stand {
	for made := 0; ; made++ {
		e, x, uses, why, code := m.step()
		if why != api.WhyGo || made >= fuel || m.Steps >= api.MaxFuel {
			m.Why, m.Code = why, code
			return m.Stand
		}
		m.Point = e.To
		m.Steps++
		m.Used += uses
		if x != nil {
			m.State = slices.Clone(m.State)
			m.State[e.Var] = *x
		}
	}
}

func TestModels(t *testing.T) { // P11.1 to P11.5, held against the edges
	s := &stream{2}
	met := make([]int, 4)
	drawn(t, s, 2000, func(_ *program, text string, g *graph.Graph) {
		choices, fuel := s.choices(s.below(60)), s.below(100)-3
		got, want := ran(t, g, choices, fuel), modelOf(g, choices).run(fuel)
		if shown(got) != shown(want) {
			t.Fatalf("P11.2 to P11.5: %q with %v, fuel %d:\n%.300s, want\n%.300s", text, choices, fuel, shown(got), shown(want))
		}
		met[got.Why]++
	})
	if slices.Min(met) < 60 {
		t.Errorf("too few of a kind were drawn: %v", met)
	}
}

func TestModelsFrom(t *testing.T) { // P11.1, R5: from any point, in any state
	s := &stream{3}
	met := make([]int, 4)
	drawn(t, s, 1500, func(_ *program, text string, g *graph.Graph) {
		point, state, choices, fuel := s.below(g.Points()), s.state(len(g.Vars())), s.choices(s.below(30)), s.below(60)
		m := put(t, g, point, state, choices...)
		w := &model{g: g, choices: choices, Stand: api.Stand{Point: point}}
		for _, x := range state {
			w.State = append(w.State, wholeOf(toBig(x)))
		}
		made := m.Go(fuel)
		got, want := m.Tell(), w.run(fuel)
		if shown(got) != shown(want) || made != got.Steps {
			t.Fatalf("P11.1 to P11.4: %q from %d with %v, fuel %d made %d:\n%.300s, want\n%.300s", text, point, choices, fuel, made, shown(got), shown(want))
		}
		met[got.Why]++
	})
	if slices.Min(met) < 60 {
		t.Errorf("too few of a kind were drawn: %v", met)
	}
}
