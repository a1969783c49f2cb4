package relate_test

import (
	"math/big"
	"slices"
	"testing"

	"rafter/api"
	"rafter/graph"
	"rafter/relate"
)

// flat is the model of a hull: the empty one, or a point and steps, on fractions.
type flat struct {
	n     int
	some  bool
	base  []*big.Rat
	steps [][]*big.Rat // each one's first number is 1, and alone in its column
}

// plus answers a + by b, number by number.
func plus(a []*big.Rat, by *big.Rat, b []*big.Rat) []*big.Rat {
	out := make([]*big.Rat, len(a))
	for i := range a {
		out[i] = new(big.Rat).Mul(by, b[i])
		out[i].Add(out[i], a[i])
	}
	return out
}

// noughts answers count numbers 0.
func noughts(count int) []*big.Rat {
	out := make([]*big.Rat, count)
	for i := range out {
		out[i] = new(big.Rat)
	}
	return out
}

// leads answers where the first number other than 0 stands, -1 if there is none.
func leads(l []*big.Rat) int {
	return slices.IndexFunc(l, func(x *big.Rat) bool { return x.Sign() != 0 })
}

// turned answers rows of the same row space, each one's first number 1 and alone in its column.
func turned(rows [][]*big.Rat, cols int) [][]*big.Rat {
	left, rank := slices.Clone(rows), 0
	for c := range cols {
		at := rank + slices.IndexFunc(left[rank:], func(l []*big.Rat) bool { return l[c].Sign() != 0 })
		if at < rank {
			continue
		}
		left[at], left[rank] = left[rank], left[at]
		left[rank] = plus(noughts(cols), new(big.Rat).Inv(left[rank][c]), left[rank])
		for i := range left {
			if i != rank {
				left[i] = plus(left[i], new(big.Rat).Neg(left[i][c]), left[rank])
			}
		}
		rank++
	}
	return left[:rank]
}

// rats reads whole numbers as fractions.
func rats(l []*big.Int) []*big.Rat {
	var out []*big.Rat
	for _, x := range l {
		out = append(out, new(big.Rat).SetInt(x))
	}
	return out
}

// hull answers the model through pairs.
func hull(n int, pairs [][]*big.Int) flat {
	if len(pairs) == 0 {
		return flat{n: n}
	}
	base := rats(pairs[0])
	var steps [][]*big.Rat
	for _, p := range pairs[1:] {
		steps = append(steps, plus(rats(p), big.NewRat(-1, 1), base))
	}
	out := flat{n, true, base, turned(steps, n)}
	out.base = out.less(out.base)
	return out
}

// less answers what is left of a list when multiples of the steps have made it 0 where they lead.
func (m flat) less(p []*big.Rat) []*big.Rat {
	for _, step := range m.steps {
		p = plus(p, new(big.Rat).Neg(p[leads(step)]), step)
	}
	return p
}

// has says whether a pair is one of its points.
func (m flat) has(pair []*big.Int) bool {
	return m.some && leads(m.less(plus(rats(pair), big.NewRat(-1, 1), m.base))) < 0
}

// rows answers its equations, turned.
func (m flat) rows() [][]*big.Rat {
	var out [][]*big.Rat
	if !m.some {
		none := noughts(m.n + 1)
		none[m.n].SetInt64(1)
		return append(out, none)
	}
	for c := range m.n {
		if slices.ContainsFunc(m.steps, func(l []*big.Rat) bool { return leads(l) == c }) {
			continue
		}
		r := noughts(m.n + 1)
		r[c].SetInt64(1)
		for _, l := range m.steps {
			r[leads(l)] = new(big.Rat).Neg(l[c])
		}
		for i, x := range m.base {
			r[m.n].Add(r[m.n], new(big.Rat).Mul(r[i], x))
		}
		out = append(out, r)
	}
	return turned(out, m.n+1)
}

// lowest answers turned rows as whole numbers that have nothing in common.
func lowest(rows [][]*big.Rat) [][]api.Whole {
	var out [][]api.Whole
	for _, r := range rows {
		times := big.NewInt(1)
		for _, x := range r {
			common := new(big.Int).GCD(nil, nil, times, x.Denom())
			times.Mul(times, new(big.Int).Quo(x.Denom(), common))
		}
		var l []api.Whole
		for _, x := range r {
			l = append(l, wholeOf(new(big.Rat).Mul(x, new(big.Rat).SetInt(times)).Num()))
		}
		out = append(out, l)
	}
	return out
}

// tooBig says whether a number of its rows, its steps or its base is too long.
func (m flat) tooBig() bool {
	for _, l := range append(lowest(m.rows()), lowest(m.steps)...) {
		if slices.ContainsFunc(l, func(x api.Whole) bool { return len(x.Mag) > api.MaxLimbs }) {
			return true
		}
	}
	return slices.ContainsFunc(m.base, func(x *big.Rat) bool { return tooLong(x.Num()) || tooLong(x.Denom()) })
}

// model is what must be found of a graph, worked out word for word as P12.1 to P12.3 say, of pairs in the place of states.
type model struct {
	n     int // how many numbers a pair has
	pairs [][][]*big.Int
	hulls []flat // of each point's pairs
	long  bool   // whether a pair is too long
	waits [][2]int
}

// give gives a point its next pair, which waits.
func (m *model) give(point int, pair []*big.Int) {
	m.waits = append(m.waits, [2]int{point, len(m.pairs[point])})
	m.pairs[point] = append(m.pairs[point], pair)
	m.long = m.long || slices.ContainsFunc(pair, tooLong)
	m.hulls[point] = hull(m.n, m.pairs[point])
}

// with answers a list with x in the place of a number.
func with(l []*big.Int, v int, x *big.Int) []*big.Int {
	out := slices.Clone(l)
	out[v] = x
	return out
}

// formed answers the sum of factor times number, and what is added.
func formed(f []api.Whole, state []*big.Int) *big.Int {
	out := toBig(f[len(state)])
	for i, x := range state {
		out.Add(out, new(big.Int).Mul(toBig(f[i]), x))
	}
	return out
}

// became answers the images of a pair.
func became(e api.Edge, pair []*big.Int) [][]*big.Int {
	switch e.Kind {
	case api.EdgeSet:
		return [][]*big.Int{with(pair, e.Var, formed(e.Row, pair[:len(pair)/2]))}
	case api.EdgeAny, api.EdgeHard:
		return [][]*big.Int{with(pair, e.Var, big.NewInt(0)), with(pair, e.Var, big.NewInt(1))}
	}
	return [][]*big.Int{pair}
}

// beginning answers the states of point 0's samples.
func beginning(g *graph.Graph) [][]*big.Int {
	var begin []*big.Int
	for _, b := range g.Begins() {
		begin = append(begin, toBig(b.Value))
	}
	out := [][]*big.Int{begin}
	for v, b := range g.Begins() {
		if b.Any {
			out = append(out, with(begin, v, big.NewInt(1)))
		}
	}
	return out
}

// modelOf answers the model of a graph, up to the first pair that is too long.
func modelOf(g *graph.Graph) *model {
	m := &model{n: 2 * len(g.Vars()), pairs: make([][][]*big.Int, g.Points()), hulls: make([]flat, g.Points())}
	for p := range m.hulls {
		m.hulls[p] = hull(m.n, nil)
	}
	for _, state := range beginning(g) {
		m.give(0, slices.Concat(state, state))
	}
	edges := g.Edges()
	for ; len(m.waits) > 0 && !m.long; m.waits = m.waits[1:] {
		point, index := m.waits[0][0], m.waits[0][1]
		for _, i := range g.Out(point) {
			for _, image := range became(edges[i], m.pairs[point][index]) {
				if !m.hulls[edges[i].To].has(image) {
					m.give(edges[i].To, image)
				}
			}
		}
	}
	return m
}

// tooBig says whether Solve answers ErrTooBig.
func (m *model) tooBig() bool { return m.long || slices.ContainsFunc(m.hulls, flat.tooBig) }

// told answers the pairs of a point as they are told.
func (m *model) told(point int) [][]api.Whole {
	var out [][]api.Whole
	for _, pair := range m.pairs[point] {
		var l []api.Whole
		for _, x := range pair {
			l = append(l, wholeOf(x))
		}
		out = append(out, l)
	}
	return out
}

// like fails the test if Solve does not find what the model tells.
func like(t testing.TB, text string, g *graph.Graph) *relate.Relation {
	t.Helper()
	r, e := relate.Solve(g)
	want := modelOf(g)
	if want.tooBig() {
		if r != nil || e != api.ErrTooBig {
			t.Fatalf("P17.2: %.900q: %v; want ErrTooBig", text, e)
		}
		return nil
	}
	if r == nil || e != api.OK {
		t.Fatalf("P17.2: %.900q: %v", text, e)
	}
	for p := range g.Points() {
		if got, want := sayRows(r.Samples(p)), sayRows(want.told(p)); got != want {
			t.Fatalf("P17.2: %.900q at %d: %s; want %s", text, p, got, want)
		}
		if got, want := sayRows(r.Rows(p)), sayRows(lowest(want.hulls[p].rows())); got != want {
			t.Fatalf("P17.3: %.900q at %d: %s; want %s", text, p, got, want)
		}
		if got, want := r.Dim(p), len(want.pairs[p])-1; got != want {
			t.Fatalf("P17.3: %.900q at %d: %d; want %d", text, p, got, want)
		}
	}
	return r
}

func TestModels(t *testing.T) { // P17.2, P17.3
	s := &stream{1}
	met := map[string]int{}
	drawn(t, s, 600, func(text string, g *graph.Graph) {
		r := like(t, text, g)
		if r == nil {
			met["big"]++
			return
		}
		switch n, dim := len(g.Vars()), r.Dim(g.Exit()); {
		case dim < 0:
			met["nothing"]++
		case dim > n:
			met["above"]++
		case n > 2 && dim > 0:
			met["between"]++
		}
		if g.Pure() {
			met["pure"]++
		}
		if len(g.Vars()) > 6 {
			met["many"]++
		}
	})
	for _, kind := range []string{"big", "nothing", "above", "between", "pure", "many"} {
		if met[kind] < 12 {
			t.Errorf("too few of a kind were drawn: %s %d", kind, met[kind])
		}
	}
}
