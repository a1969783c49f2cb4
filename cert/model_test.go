package cert_test

import (
	"math/big"
	"slices"
	"testing"

	"rafter/api"
	"rafter/cert"
	"rafter/graph"
)

// plus answers a + by b, number by number.
func plus(a []*big.Rat, by *big.Rat, b []*big.Rat) []*big.Rat {
	out := make([]*big.Rat, len(a))
	for i := range a {
		out[i] = new(big.Rat).Mul(by, b[i])
		out[i].Add(out[i], a[i])
	}
	return out
}

// unit answers count numbers 0, but 1 at one place (none, if there is no such place).
func unit(count, one int) []*big.Rat {
	out := make([]*big.Rat, count)
	for i := range out {
		out[i] = new(big.Rat)
	}
	if one >= 0 && one < count {
		out[one].SetInt64(1)
	}
	return out
}

// leads answers where the first number other than 0 stands.
func leads(l []*big.Rat) int {
	return slices.IndexFunc(l, func(x *big.Rat) bool { return x.Sign() != 0 })
}

// rats reads numbers as fractions.
func rats(l []api.Whole) []*big.Rat {
	var out []*big.Rat
	for _, x := range l {
		out = append(out, new(big.Rat).SetInt(toBig(x)))
	}
	return out
}

// turned answers rows of the same row space, each one's first number 1 and alone in its column, these columns rising.
func turned(rows [][]*big.Rat, cols int) [][]*big.Rat {
	left, rank := slices.Clone(rows), 0
	for c := range cols {
		at := rank + slices.IndexFunc(left[rank:], func(l []*big.Rat) bool { return l[c].Sign() != 0 })
		if at < rank {
			continue
		}
		left[at], left[rank] = left[rank], left[at]
		left[rank] = plus(unit(cols, -1), new(big.Rat).Inv(left[rank][c]), left[rank])
		for i := range left {
			if i != rank {
				left[i] = plus(left[i], new(big.Rat).Neg(left[i][c]), left[rank])
			}
		}
		rank++
	}
	return left[:rank]
}

// lowest answers turned rows as whole numbers that have nothing in common.
func lowest(rows [][]*big.Rat) [][]api.Whole {
	var out [][]api.Whole
	for _, r := range rows {
		times := big.NewInt(1)
		for _, x := range r {
			common := new(big.Int).GCD(nil, nil, times, x.Denom())
			times.Mul(times, new(big.Int).Quo(x.Denom(), common))
		}
		var l []api.Whole
		for _, x := range r {
			l = append(l, wholeOf(new(big.Rat).Mul(x, new(big.Rat).SetInt(times)).Num()))
		}
		out = append(out, l)
	}
	return out
}

// flat is a set of points: none, or a point and what may be gone from there.
type flat struct {
	some  bool
	base  []*big.Rat
	steps [][]*big.Rat
}

// flatOf answers the points that meet rows.
func flatOf(n int, rows [][]api.Whole) flat {
	var all [][]*big.Rat
	for _, row := range rows {
		all = append(all, rats(row))
	}
	all = turned(all, n+1)
	out := flat{some: true, base: unit(n, -1)}
	for c := range n {
		step, at := unit(n, c), slices.IndexFunc(all, func(l []*big.Rat) bool { return leads(l) == c })
		if at >= 0 {
			out.base[c] = all[at][n]
			continue
		}
		for _, l := range all {
			if lead := leads(l); lead < n {
				step[lead] = new(big.Rat).Neg(l[c])
			}
		}
		out.steps = append(out.steps, step)
	}
	if slices.ContainsFunc(all, func(l []*big.Rat) bool { return leads(l) == n }) {
		return flat{}
	}
	return out
}

// through answers the rows that a span tells which goes through these states, turned: a row is met by the first one, and by what leads from it to each other one.
func through(n int, states [][]api.Whole) [][]api.Whole {
	if len(states) == 0 {
		return lowest([][]*big.Rat{unit(n+1, n)})
	}
	base := rats(states[0])
	var across [][]api.Whole // of factors alone: a row makes 0 with each way
	for _, s := range states[1:] {
		way := plus(rats(s), big.NewRat(-1, 1), base)
		across = append(across, append(lowest([][]*big.Rat{way})[0], api.Whole{}))
	}
	var rows [][]*big.Rat
	for _, factors := range flatOf(n, across).steps {
		right := new(big.Rat)
		for i, x := range factors {
			right.Add(right, new(big.Rat).Mul(x, base[i]))
		}
		rows = append(rows, append(slices.Clone(factors), right))
	}
	return lowest(turned(rows, n+1))
}

// product answers the sum of factor times number.
func product(factors, l []*big.Rat) *big.Rat {
	out := new(big.Rat)
	for i, x := range l {
		out.Add(out, new(big.Rat).Mul(factors[i], x))
	}
	return out
}

// over answers what becomes of points over an edge.
func (f flat) over(e api.Edge) flat {
	if !f.some {
		return f
	}
	n := len(f.base)
	out := flat{some: true, base: slices.Clone(f.base), steps: slices.Clone(f.steps)}
	switch e.Kind {
	case api.EdgeSet:
		form := rats(e.Row)
		out.base[e.Var] = new(big.Rat).Add(product(form, f.base), form[n])
		for i, step := range f.steps {
			out.steps[i] = slices.Clone(step)
			out.steps[i][e.Var] = product(form, step)
		}
	case api.EdgeAny, api.EdgeHard:
		out.steps = append(out.steps, unit(n, e.Var))
	}
	return out
}

// meet says whether all of them meet all rows.
func (f flat) meet(rows [][]api.Whole) bool {
	if !f.some {
		return true
	}
	return !slices.ContainsFunc(rows, func(row []api.Whole) bool {
		r := rats(row)
		goes := slices.ContainsFunc(f.steps, func(step []*big.Rat) bool { return product(r, step).Sign() != 0 })
		return goes || product(r, f.base).Cmp(r[len(f.base)]) != 0
	})
}

// meets says whether a state meets all rows.
func meets(state []api.Whole, rows [][]api.Whole) bool {
	return flat{some: true, base: rats(state)}.meet(rows)
}

// byValue answers rows in their one form.
func byValue(rows [][]api.Whole) [][]api.Whole {
	var out [][]api.Whole
	for _, row := range rows {
		var l []api.Whole
		for _, x := range row {
			l = append(l, wholeOf(toBig(x)))
		}
		out = append(out, l)
	}
	return out
}

// states answers the states of samples, in their one form.
func states(l []api.Sample) [][]api.Whole {
	var out [][]api.Whole
	for _, x := range l {
		out = append(out, x.State)
	}
	return byValue(out)
}

// told says whether rows are those that some span tells.
func told(n int, rows [][]api.Whole) bool {
	var all [][]*big.Rat
	for _, row := range rows {
		all = append(all, rats(row))
	}
	if !flatOf(n, rows).some {
		all = [][]*big.Rat{unit(n+1, n)}
	}
	return sayRows(byValue(rows)) == sayRows(lowest(turned(all, n+1)))
}

// starts answers the states of the beginning, each with the variable that is 1 (-1: none).
func starts(g *graph.Graph) map[int][]api.Whole {
	var zero []api.Whole
	for _, b := range g.Begins() {
		zero = append(zero, b.Value)
	}
	out := map[int][]api.Whole{-1: zero}
	for v, b := range g.Begins() {
		if b.Any {
			out[v] = slices.Clone(zero)
			out[v][v] = wholeOf(big.NewInt(1))
		}
	}
	return out
}

// imageOf answers what becomes of a state over an edge, with a value; none and false, if the edge has no image with it.
func imageOf(e api.Edge, state []api.Whole, value int) ([]api.Whole, bool) {
	out := byValue([][]api.Whole{state})[0]
	switch free := e.Kind == api.EdgeAny || e.Kind == api.EdgeHard; {
	case free:
		out[e.Var] = wholeOf(big.NewInt(int64(value)))
		return out, value == 0 || value == 1
	case e.Kind == api.EdgeSet:
		form := rats(e.Row)
		out[e.Var] = wholeOf(new(big.Rat).Add(product(form, rats(state)), form[len(state)]).Num())
	}
	return out, value == 0
}

// trial is what Check is asked, and what its answer is worked out with.
type trial struct {
	g *graph.Graph
	c []api.CertPoint
	n int
}

// badShape says whether P15.2's second point refuses what is said of a point.
func (m trial) badShape(p int) bool {
	x := m.c[p]
	return len(x.Rows) > m.n+1 || len(x.Samples) > m.n+1 ||
		slices.ContainsFunc(x.Rows, func(row []api.Whole) bool { return len(row) != m.n+1 }) ||
		slices.ContainsFunc(x.Samples, func(s api.Sample) bool { return len(s.State) != m.n })
}

// badNumber says whether the third one does.
func (m trial) badNumber(p int) bool {
	all := slices.Concat(m.c[p].Rows...)
	for _, s := range m.c[p].Samples {
		all = append(all, s.State...)
	}
	return slices.ContainsFunc(all, func(x api.Whole) bool { return tooLong(toBig(x)) })
}

// badHull says whether the fourth one does.
func (m trial) badHull(p int) bool {
	rows := m.c[p].Rows
	return !told(m.n, rows) || sayRows(byValue(rows)) != sayRows(through(m.n, states(m.c[p].Samples)))
}

// begins says whether a sample of a point is of the beginning.
func (m trial) begins(p int, s api.Sample) bool {
	state, ok := starts(m.g)[s.Value]
	return ok && p == 0 && s.Point == -1 && s.Index == -1 && s.Edge == -1 && sayRows(states([]api.Sample{s})) == say(state)
}

// source answers the sample from which one comes, if there is one of that point and index.
func (m trial) source(s api.Sample) (api.Sample, bool) {
	if s.Point < 0 || s.Point >= len(m.c) || s.Index < 0 || s.Index >= len(m.c[s.Point].Samples) {
		return api.Sample{}, false
	}
	return m.c[s.Point].Samples[s.Index], true
}

// comes says whether a sample of a point comes from another one.
func (m trial) comes(p int, s api.Sample) bool {
	from, ok := m.source(s)
	edges := m.g.Edges()
	if !ok || s.Edge < 0 || s.Edge >= len(edges) || edges[s.Edge].From != s.Point || edges[s.Edge].To != p {
		return false
	}
	image, ok := imageOf(edges[s.Edge], from.State, s.Value)
	return ok && sayRows(states([]api.Sample{s})) == say(image)
}

// goesBack says whether following a sample back comes to the beginning.
func (m trial) goesBack(p int, s api.Sample) bool {
	seen := map[[2]int]bool{}
	for !m.begins(p, s) {
		from, ok := m.source(s)
		if !ok || seen[[2]int{s.Point, s.Index}] {
			return false
		}
		seen[[2]int{s.Point, s.Index}] = true
		p, s = s.Point, from
	}
	return true
}

// badLink says whether the fifth one does.
func (m trial) badLink(p int) bool {
	return slices.ContainsFunc(m.c[p].Samples, func(s api.Sample) bool {
		return !m.begins(p, s) && !m.comes(p, s) || !m.goesBack(p, s)
	})
}

// badEdge says whether the seventh one refuses an edge.
func (m trial) badEdge(e api.Edge) bool {
	return !flatOf(m.n, m.c[e.From].Rows).over(e).meet(m.c[e.To].Rows)
}

// model answers what Check must answer, word for word as P15.2 says it.
func model(g *graph.Graph, c []api.CertPoint) (api.Errno, int) {
	if g == nil {
		return api.ErrArg, 0
	}
	if len(c) != g.Points() {
		return api.ErrCert, 0
	}
	m := trial{g, c, len(g.Vars())}
	for _, x := range []struct {
		bad  func(p int) bool
		code api.Errno
	}{{m.badShape, api.ErrCert}, {m.badNumber, api.ErrNumber}, {m.badHull, api.ErrHull}, {m.badLink, api.ErrLink}} {
		for p := range c {
			if x.bad(p) {
				return x.code, p
			}
		}
	}
	for _, state := range starts(g) {
		if !meets(state, c[0].Rows) {
			return api.ErrBegin, 0
		}
	}
	if at := slices.IndexFunc(g.Edges(), m.badEdge); at >= 0 {
		return api.ErrEdge, at
	}
	return api.OK, 0
}

// like fails the test, if Check does not answer what the model does; it answers that.
func like(t testing.TB, text string, g *graph.Graph, c []api.CertPoint) api.Errno {
	t.Helper()
	code, at := model(g, c)
	if got, where := cert.Check(g, c); got != code || where != at {
		t.Fatalf("P15.2: %.900q: %v at %d; want %v at %d\n%.3000s", text, got, where, code, at, cert.Print(c))
	}
	return code
}
