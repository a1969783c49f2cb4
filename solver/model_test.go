package solver_test

import (
	"math/big"
	"slices"
	"testing"

	"rafter/api"
	"rafter/graph"
	"rafter/solver"
)

// flat is the model of a hull: the empty one, or a point and steps, on fractions.
type flat struct {
	n     int
	some  bool
	base  []*big.Rat
	steps [][]*big.Rat // each one's first number is 1, and alone in its column
}

// plus answers a + by b, number by number.
func plus(a []*big.Rat, by *big.Rat, b []*big.Rat) []*big.Rat {
	out := make([]*big.Rat, len(a))
	for i := range a {
		out[i] = new(big.Rat).Mul(by, b[i])
		out[i].Add(out[i], a[i])
	}
	return out
}

// noughts answers count numbers 0.
func noughts(count int) []*big.Rat {
	out := make([]*big.Rat, count)
	for i := range out {
		out[i] = new(big.Rat)
	}
	return out
}

// leads answers where the first number other than 0 stands, -1 if there is none.
func leads(l []*big.Rat) int {
	return slices.IndexFunc(l, func(x *big.Rat) bool { return x.Sign() != 0 })
}

// turned answers rows of the same row space, each one's first number 1 and alone in its column.
func turned(rows [][]*big.Rat, cols int) [][]*big.Rat {
	left, rank := slices.Clone(rows), 0
	for c := range cols {
		at := rank + slices.IndexFunc(left[rank:], func(l []*big.Rat) bool { return l[c].Sign() != 0 })
		if at < rank {
			continue
		}
		left[at], left[rank] = left[rank], left[at]
		left[rank] = plus(noughts(cols), new(big.Rat).Inv(left[rank][c]), left[rank])
		for i := range left {
			if i != rank {
				left[i] = plus(left[i], new(big.Rat).Neg(left[i][c]), left[rank])
			}
		}
		rank++
	}
	return left[:rank]
}

// rats reads a state as fractions.
func rats(state []*big.Int) []*big.Rat {
	var out []*big.Rat
	for _, x := range state {
		out = append(out, new(big.Rat).SetInt(x))
	}
	return out
}

// hull answers the model through states.
func hull(n int, states [][]*big.Int) flat {
	if len(states) == 0 {
		return flat{n: n}
	}
	base := rats(states[0])
	var steps [][]*big.Rat
	for _, p := range states[1:] {
		steps = append(steps, plus(rats(p), big.NewRat(-1, 1), base))
	}
	out := flat{n, true, base, turned(steps, n)}
	out.base = out.less(out.base)
	return out
}

// less answers what is left of a list when multiples of the steps have made it 0 where they lead.
func (m flat) less(p []*big.Rat) []*big.Rat {
	for _, step := range m.steps {
		p = plus(p, new(big.Rat).Neg(p[leads(step)]), step)
	}
	return p
}

// has says whether a state is one of its points.
func (m flat) has(state []*big.Int) bool {
	return m.some && leads(m.less(plus(rats(state), big.NewRat(-1, 1), m.base))) < 0
}

// rows answers its equations, turned.
func (m flat) rows() [][]*big.Rat {
	var out [][]*big.Rat
	if !m.some {
		none := noughts(m.n + 1)
		none[m.n].SetInt64(1)
		return append(out, none)
	}
	for c := range m.n {
		if slices.ContainsFunc(m.steps, func(l []*big.Rat) bool { return leads(l) == c }) {
			continue
		}
		r := noughts(m.n + 1)
		r[c].SetInt64(1)
		for _, l := range m.steps {
			r[leads(l)] = new(big.Rat).Neg(l[c])
		}
		for i, x := range m.base {
			r[m.n].Add(r[m.n], new(big.Rat).Mul(r[i], x))
		}
		out = append(out, r)
	}
	return turned(out, m.n+1)
}

// lowest answers turned rows as whole numbers that have nothing in common.
func lowest(rows [][]*big.Rat) [][]api.Whole {
	var out [][]api.Whole
	for _, r := range rows {
		times := big.NewInt(1)
		for _, x := range r {
			common := new(big.Int).GCD(nil, nil, times, x.Denom())
			times.Mul(times, new(big.Int).Quo(x.Denom(), common))
		}
		var l []api.Whole
		for _, x := range r {
			l = append(l, wholeOf(new(big.Rat).Mul(x, new(big.Rat).SetInt(times)).Num()))
		}
		out = append(out, l)
	}
	return out
}

// tooBig says whether a number of its rows, its steps or its base is too long.
func (m flat) tooBig() bool {
	for _, l := range append(lowest(m.rows()), lowest(m.steps)...) {
		if slices.ContainsFunc(l, func(x api.Whole) bool { return len(x.Mag) > api.MaxLimbs }) {
			return true
		}
	}
	return slices.ContainsFunc(m.base, func(x *big.Rat) bool { return tooLong(x.Num()) || tooLong(x.Denom()) })
}

// guess is a sample of the model.
type guess struct {
	state                     []*big.Int
	point, index, edge, value int
}

// model is what must be found of a graph, worked out word for word as P12.1 to P12.3 say.
type model struct {
	n       int
	samples [][]guess
	hulls   []flat // of each point's samples
	long    bool   // whether a sample is too long
	waits   [][2]int
	looks   int
}

// states answers the states of a point's samples.
func (m *model) states(point int) [][]*big.Int {
	var out [][]*big.Int
	for _, x := range m.samples[point] {
		out = append(out, x.state)
	}
	return out
}

// give gives a point its next sample, which waits.
func (m *model) give(point int, x guess) {
	m.waits = append(m.waits, [2]int{point, len(m.samples[point])})
	m.samples[point] = append(m.samples[point], x)
	m.long = m.long || slices.ContainsFunc(x.state, tooLong)
	m.hulls[point] = hull(m.n, m.states(point))
}

// with answers a state with x in the place of a variable.
func with(state []*big.Int, v int, x *big.Int) []*big.Int {
	out := slices.Clone(state)
	out[v] = x
	return out
}

// formed answers the sum of factor times state, and what is added.
func formed(f []api.Whole, state []*big.Int) *big.Int {
	out := toBig(f[len(state)])
	for i, x := range state {
		out.Add(out, new(big.Int).Mul(toBig(f[i]), x))
	}
	return out
}

// became answers the images of a state.
func became(e api.Edge, state []*big.Int) [][]*big.Int {
	switch e.Kind {
	case api.EdgeSet:
		return [][]*big.Int{with(state, e.Var, formed(e.Row, state))}
	case api.EdgeAny, api.EdgeHard:
		return [][]*big.Int{with(state, e.Var, big.NewInt(0)), with(state, e.Var, big.NewInt(1))}
	}
	return [][]*big.Int{state}
}

// modelOf answers the model of a graph, up to the first sample that is too long.
func modelOf(g *graph.Graph) *model {
	m := &model{n: len(g.Vars()), samples: make([][]guess, g.Points()), hulls: make([]flat, g.Points())}
	for p := range m.hulls {
		m.hulls[p] = hull(m.n, nil)
	}
	var begin []*big.Int
	for _, b := range g.Begins() {
		begin = append(begin, toBig(b.Value))
	}
	m.give(0, guess{begin, -1, -1, -1, -1})
	for v, b := range g.Begins() {
		if b.Any {
			m.give(0, guess{with(begin, v, big.NewInt(1)), -1, -1, -1, v})
		}
	}
	edges := g.Edges()
	for ; len(m.waits) > 0 && !m.long; m.waits = m.waits[1:] {
		point, index := m.waits[0][0], m.waits[0][1]
		for _, i := range g.Out(point) {
			m.looks++
			for value, image := range became(edges[i], m.samples[point][index].state) {
				if !m.hulls[edges[i].To].has(image) {
					m.give(edges[i].To, guess{image, point, index, i, value})
				}
			}
		}
	}
	return m
}

// tooBig says whether Solve answers ErrTooBig.
func (m *model) tooBig() bool { return m.long || slices.ContainsFunc(m.hulls, flat.tooBig) }

// told answers the samples of a point as they are told.
func (m *model) told(point int) []api.Sample {
	var out []api.Sample
	for _, x := range m.samples[point] {
		var state []api.Whole
		for _, y := range x.state {
			state = append(state, wholeOf(y))
		}
		out = append(out, api.Sample{State: state, Point: x.point, Index: x.index, Edge: x.edge, Value: x.value})
	}
	return out
}

// like fails the test if Solve does not find what the model tells.
func like(t testing.TB, text string, g *graph.Graph) *solver.Result {
	t.Helper()
	r, e := solver.Solve(g)
	want := modelOf(g)
	if want.tooBig() {
		if r != nil || e != api.ErrTooBig {
			t.Fatalf("P12.4: %.900q: %v; want ErrTooBig", text, e)
		}
		return nil
	}
	if r == nil || e != api.OK {
		t.Fatalf("P12.4: %.900q: %v", text, e)
	}
	if r.Looks() != want.looks || r.Graph() != g {
		t.Fatalf("P12.5: %.900q: %d looks; want %d", text, r.Looks(), want.looks)
	}
	for p := range g.Points() {
		if got, want := saySamples(r.Samples(p)), saySamples(want.told(p)); got != want {
			t.Fatalf("P12.1 to P12.3: %.900q at %d: %s; want %s", text, p, got, want)
		}
		if got, want := sayRows(r.Rows(p)), sayRows(lowest(want.hulls[p].rows())); got != want {
			t.Fatalf("P12.5: %.900q at %d: %s; want %s", text, p, got, want)
		}
		s, e := r.Span(p)
		if e != api.OK || sayRows(s.Rows()) != sayRows(r.Rows(p)) || sayRows(s.Steps()) != sayRows(lowest(want.hulls[p].steps)) {
			t.Fatalf("P12.5: %.900q at %d: another span, %v", text, p, e)
		}
	}
	return r
}

func TestModels(t *testing.T) { // P12.1 to P12.5
	s := &stream{1}
	met := map[string]int{}
	drawn(t, s, 2000, func(text string, g *graph.Graph) {
		r := like(t, text, g)
		if r == nil {
			met["big"]++
			return
		}
		dim := r.Dim(g.Exit())
		switch {
		case dim < 0:
			met["nothing"]++
		case len(g.Vars()) > 2 && dim > 0 && dim < len(g.Vars()):
			met["between"]++
		}
		if g.Pure() {
			met["pure"]++
		}
		if len(g.Vars()) > 6 {
			met["many"]++
		}
	})
	for _, kind := range []string{"big", "nothing", "between", "pure", "many"} {
		if met[kind] < 40 {
			t.Errorf("too few of a kind were drawn: %s %d", kind, met[kind])
		}
	}
}
