package back_test

import (
	"math/big"
	"slices"
	"testing"

	"rafter/api"
	"rafter/back"
	"rafter/graph"
	"rafter/solver"
)

// plus answers a + by b, number by number.
func plus(a []*big.Rat, by *big.Rat, b []*big.Rat) []*big.Rat {
	out := make([]*big.Rat, len(a))
	for i := range a {
		out[i] = new(big.Rat).Mul(by, b[i])
		out[i].Add(out[i], a[i])
	}
	return out
}

// noughts answers count numbers 0.
func noughts(count int) []*big.Rat {
	out := make([]*big.Rat, count)
	for i := range out {
		out[i] = new(big.Rat)
	}
	return out
}

// leads answers where the first number other than 0 stands, -1 if there is none.
func leads(l []*big.Rat) int {
	return slices.IndexFunc(l, func(x *big.Rat) bool { return x.Sign() != 0 })
}

// turned answers rows of the same row space, each one's first number 1 and alone in its column.
func turned(rows [][]*big.Rat, cols int) [][]*big.Rat {
	left, rank := slices.Clone(rows), 0
	for c := range cols {
		at := rank + slices.IndexFunc(left[rank:], func(l []*big.Rat) bool { return l[c].Sign() != 0 })
		if at < rank {
			continue
		}
		left[at], left[rank] = left[rank], left[at]
		left[rank] = plus(noughts(cols), new(big.Rat).Inv(left[rank][c]), left[rank])
		for i := range left {
			if i != rank {
				left[i] = plus(left[i], new(big.Rat).Neg(left[i][c]), left[rank])
			}
		}
		rank++
	}
	return left[:rank]
}

// rats reads whole numbers as fractions.
func rats(l []*big.Int) []*big.Rat {
	var out []*big.Rat
	for _, x := range l {
		out = append(out, new(big.Rat).SetInt(x))
	}
	return out
}

// canonical answers the canonical row that says the same.
func canonical(row []*big.Rat) []*big.Int {
	lead := leads(row)
	if lead < 0 {
		return bigs(make([]api.Whole, len(row)))
	}
	times := new(big.Int).SetInt64(int64(row[lead].Sign()))
	for _, x := range row {
		common := new(big.Int).GCD(nil, nil, new(big.Int).Abs(times), x.Denom())
		times.Mul(times, new(big.Int).Quo(x.Denom(), common))
	}
	common := new(big.Int)
	var out []*big.Int
	for _, x := range row {
		out = append(out, new(big.Rat).Mul(x, new(big.Rat).SetInt(times)).Num())
		common.GCD(nil, nil, common, new(big.Int).Abs(out[len(out)-1]))
	}
	for _, x := range out {
		x.Quo(x, common)
	}
	return out
}

// lowest answers each row as the canonical one.
func lowest(rows [][]*big.Rat) [][]api.Whole {
	var out [][]api.Whole
	for _, row := range rows {
		out = append(out, wholes(canonical(row)))
	}
	return out
}

// flat is the model of the points that meet rows, on fractions: no point, or a base and steps.
type flat struct {
	rows, steps [][]*big.Rat
	base        []*big.Rat
}

// meeting answers the model of the points over n variables that meet rows.
func meeting(n int, rows [][]*big.Rat) flat {
	low := turned(rows, n+1)
	if len(low) > 0 && leads(low[len(low)-1]) == n {
		return flat{rows: low[len(low)-1:]}
	}
	base := noughts(n)
	for _, row := range low {
		base[leads(row)].Set(row[n])
	}
	var steps [][]*big.Rat
	for c := range n {
		if slices.ContainsFunc(low, func(row []*big.Rat) bool { return leads(row) == c }) {
			continue
		}
		step := noughts(n)
		step[c].SetInt64(1)
		for _, row := range low {
			step[leads(row)].Neg(row[c])
		}
		steps = append(steps, step)
	}
	steps = turned(steps, n)
	for _, step := range steps {
		base = plus(base, new(big.Rat).Neg(base[leads(step)]), step)
	}
	return flat{low, steps, base}
}

// tooBig says whether a number of its rows, its steps or its base is too long.
func (m flat) tooBig() bool {
	for _, l := range append(lowest(m.rows), lowest(m.steps)...) {
		if slices.ContainsFunc(bigs(l), tooLong) {
			return true
		}
	}
	return slices.ContainsFunc(m.base, func(x *big.Rat) bool { return tooLong(x.Num()) || tooLong(x.Denom()) })
}

// want is a need of the model, and how it came: over which edge, of which need of that edge's end, with which number in the variable's place. The first one has the edge -1.
type want struct {
	row             []*big.Int
	edge, of, value int
}

// model is what must be found, worked out word for word as P16.1 and P16.2 say.
type model struct {
	g     *graph.Graph
	edges []api.Edge
	n     int
	needs [][]want // of each point
	waits [][2]int
	looks int
	long  bool   // whether a need is too long
	flats []flat // of each point the points that meet all its needs
}

// rows answers the rows of a point's needs as fractions.
func (m *model) rows(point int) [][]*big.Rat {
	var out [][]*big.Rat
	for _, x := range m.needs[point] {
		out = append(out, rats(x.row))
	}
	return out
}

// give makes a row, made canonical, the point's next need, if it is not told by those that are there.
func (m *model) give(point int, x want) {
	if len(turned(append(m.rows(point), rats(x.row)), m.n+1)) == len(m.needs[point]) {
		return
	}
	x.row = canonical(rats(x.row))
	m.long = m.long || slices.ContainsFunc(x.row, tooLong)
	m.waits = append(m.waits, [2]int{point, len(m.needs[point])})
	m.needs[point] = append(m.needs[point], x)
}

// put answers affine.Put.
func put(row []*big.Int, v int, f []*big.Int) []*big.Int {
	right := len(row) - 1
	var out []*big.Int
	for i, x := range row {
		by := new(big.Int).Mul(row[v], f[i])
		switch i {
		case right:
			by.Sub(x, by)
		case v:
		default:
			by.Add(x, by)
		}
		out = append(out, by)
	}
	return out
}

// ahead answers the rows that a look at an edge makes of one.
func (m *model) ahead(e api.Edge, row []*big.Int) [][]*big.Int {
	switch e.Kind {
	case api.EdgeSet:
		return [][]*big.Int{put(row, e.Var, bigs(e.Row))}
	case api.EdgeAny, api.EdgeHard:
		var out [][]*big.Int
		for value := range 2 {
			f := bigs(make([]api.Whole, m.n+1))
			f[m.n].SetInt64(int64(value))
			out = append(out, put(row, e.Var, f))
		}
		return out
	}
	return [][]*big.Int{row}
}

// modelOf answers the model of a row at a point, up to the first need that is too long.
func modelOf(g *graph.Graph, point int, row []api.Whole) *model {
	m := &model{g: g, edges: g.Edges(), n: len(g.Vars()), needs: make([][]want, g.Points())}
	m.give(point, want{bigs(row), -1, -1, 0})
	for ; len(m.waits) > 0 && !m.long; m.waits = m.waits[1:] {
		at, index := m.waits[0][0], m.waits[0][1]
		for i, e := range m.edges {
			if e.To != at {
				continue
			}
			m.looks++
			for value, x := range m.ahead(e, m.needs[at][index].row) {
				if m.give(e.From, want{x, i, index, value}); m.long {
					return m
				}
			}
		}
	}
	for p := range m.needs {
		m.flats = append(m.flats, meeting(m.n, m.rows(p)))
	}
	return m
}

// tooBig says whether Find answers ErrTooBig.
func (m *model) tooBig() bool { return m.long || slices.ContainsFunc(m.flats, flat.tooBig) }

// broken answers the index of the first need of a point that a state does not meet, -1 if it meets all.
func (m *model) broken(point int, state []*big.Int) int {
	return slices.IndexFunc(m.needs[point], func(x want) bool { return left(x.row, state).Sign() != 0 })
}

// always says whether all states in which the program may begin meet the needs of point 0, one number each having been put in.
func (m *model) always() bool {
	var first []*big.Int
	for _, b := range m.g.Begins() {
		first = append(first, toBig(b.Value))
	}
	for v, b := range m.g.Begins() {
		for _, x := range []int64{1, -7, 1000000007} {
			state := slices.Clone(first)
			if state[v] = big.NewInt(x); b.Any && m.broken(0, state) >= 0 {
				return false
			}
		}
	}
	return m.broken(0, first) < 0
}

// like fails the test if Find does not find what the model tells. It answers both, nothing of what is too big.
func like(t testing.TB, text string, g *graph.Graph, point int, row []api.Whole) (*back.Need, *model) {
	t.Helper()
	n, e := back.Find(g, point, row)
	m := modelOf(g, point, row)
	if m.tooBig() {
		if n != nil || e != api.ErrTooBig {
			t.Fatalf("P16.3: %.900q, %s at %d: %v; want ErrTooBig", text, say(row), point, e)
		}
		return nil, nil
	}
	if n == nil || e != api.OK {
		t.Fatalf("P16.3, W7: %.900q, %s at %d: %v", text, say(row), point, e)
	}
	if n.Looks() != m.looks {
		t.Fatalf("P16.2: %.900q, %s at %d: %d looks; want %d", text, say(row), point, n.Looks(), m.looks)
	}
	for p := range g.Points() {
		want := m.flats[p]
		if got, want := sayRows(n.Rows(p)), sayRows(lowest(want.rows)); got != want {
			t.Fatalf("P16.1, P16.2: %.900q, %s at %d: at %d %s; want %s", text, say(row), point, p, got, want)
		}
		s, e := n.Span(p)
		if e != api.OK || sayRows(s.Rows()) != sayRows(n.Rows(p)) || sayRows(s.Steps()) != sayRows(lowest(want.steps)) {
			t.Fatalf("P16.4: %.900q, %s at %d: at %d another span, %v", text, say(row), point, p, e)
		}
	}
	if n.Always() != m.always() {
		t.Fatalf("P16.4: %.900q, %s at %d: Always is %v", text, say(row), point, n.Always())
	}
	return n, m
}

// asked draws programs, points and rows, and hands on what is found of each, together with its model; of what is too big neither.
func asked(t *testing.T, s *stream, count int, do func(text string, point int, row []api.Whole, n *back.Need, m *model)) {
	t.Helper()
	drawn(t, s, count, func(text string, g *graph.Graph) {
		r, _ := solver.Solve(g)
		for _, point := range []int{g.Exit(), s.below(g.Points())} {
			row := s.nearly(r, point, len(g.Vars()))
			n, m := like(t, text, g, point, row)
			do(text, point, row, n, m)
		}
	})
}

// held hands on what asked does, but for what is too big.
func held(t *testing.T, s *stream, count int, do func(text string, point int, row []api.Whole, n *back.Need, m *model)) {
	t.Helper()
	asked(t, s, count, func(text string, point int, row []api.Whole, n *back.Need, m *model) {
		if n != nil {
			do(text, point, row, n, m)
		}
	})
}

func TestModels(t *testing.T) { // P16.1 to P16.4
	s := &stream{1}
	count := map[string]int{}
	asked(t, s, 1000, func(text string, point int, row []api.Whole, n *back.Need, m *model) {
		if n == nil {
			count["big"]++
			return
		}
		switch begin, _ := n.Span(0); {
		case m.looks == 0:
			count["no look"]++
		case begin.Dim() < 0:
			count["nowhere"]++
		case begin.Dim() == m.n:
			count["everywhere"]++
		case begin.Dim() > 0 && begin.Dim() < m.n-1:
			count["between"]++
		}
		if n.Always() {
			count["always"]++
		}
		if m.g.Pure() {
			count["pure"]++
		}
	})
	for _, kind := range []string{"big", "no look", "nowhere", "everywhere", "between", "always", "pure"} {
		if count[kind] < 30 {
			t.Errorf("too few of a kind were drawn: %v", count)
		}
	}
}
