package solver_test

import (
	"math/big"
	"slices"
	"testing"

	"rafter/api"
	"rafter/graph"
	"rafter/machine"
	"rafter/solver"
)

// rowsOf answers rows to ask of a point: drawn ones, some of its own, sums of these, and those of its own with another right side.
func (s *stream) rowsOf(r *solver.Result, point int) [][]api.Whole {
	n := len(r.Graph().Vars())
	out := [][]api.Whole{s.row(n), s.row(n), make([]api.Whole, n+1)}
	sum := make([]*big.Int, n+1)
	for i := range sum {
		sum[i] = new(big.Int)
	}
	for _, row := range r.Rows(point) {
		by := big.NewInt(int64(s.below(7) - 3))
		for i, x := range row {
			sum[i].Add(sum[i], new(big.Int).Mul(by, toBig(x)))
		}
		turned := slices.Clone(row)
		turned[n] = wholeOf(new(big.Int).Add(toBig(row[n]), big.NewInt(int64(s.below(3)-1))))
		out = append(out, row, turned)
	}
	var all []api.Whole
	for _, x := range sum {
		all = append(all, wholeOf(x))
	}
	return append(out, all)
}

func TestImpliedBySamples(t *testing.T) { // P12.6: just where all samples meet it
	s := &stream{4}
	count := map[bool]int{}
	held(t, s, 400, func(text string, r *solver.Result) {
		for p := range r.Graph().Points() {
			for _, row := range s.rowsOf(r, p) {
				want := !slices.ContainsFunc(r.Samples(p), func(x api.Sample) bool { return !meets(x.State, row) })
				count[want]++
				if got := implied(t, r, p, row); got != want {
					t.Fatalf("P12.6: %q at %d: %s: %v", text, p, say(row), got)
				}
			}
			for _, row := range r.Rows(p) {
				if !implied(t, r, p, row) {
					t.Fatalf("P12.6: %q at %d: %s of Rows is not implied", text, p, say(row))
				}
			}
		}
	})
	if count[true] < 1000 || count[false] < 1000 {
		t.Errorf("too few of a kind were drawn: %v", count)
	}
}

func TestSound(t *testing.T) { // P12.9, W3: at each stand of each run
	s := &stream{5}
	stands, tested, stuck := 0, 0, 0
	held(t, s, 1500, func(text string, r *solver.Result) {
		g := r.Graph()
		asked := make([][][]api.Whole, g.Points())
		for p := range asked {
			asked[p] = r.Rows(p)
			for _, row := range s.rowsOf(r, p) {
				if implied(t, r, p, row) {
					asked[p] = append(asked[p], row)
				}
			}
		}
		for range 4 {
			choices := s.choices(s.below(30))
			m, _ := machine.Begin(g, choices)
			for made := 1; made > 0 && m.Tell().Steps < 80; made = m.Go(1) {
				at := m.Tell()
				stands++
				for _, row := range asked[at.Point] {
					if !meets(at.State, row) {
						t.Fatalf("P12.9: %q with %v at %d: %s does not meet %s", text, choices, at.Point, say(at.State), say(row))
					}
				}
			}
			if m.Tell().Why == api.WhyStuck {
				stuck++
			}
		}
		if !g.Pure() {
			tested++
		}
	})
	if stands < 20000 || tested < 200 || stuck < 20 {
		t.Errorf("too few of a kind were drawn: %d stands, %d not pure, %d stuck", stands, tested, stuck)
	}
}

// road answers the choices with which a run goes the way of a sample, and how many steps it makes.
func road(r *solver.Result, point, index int) (choices []int, steps int) {
	edges := r.Graph().Edges()
	var back []int
	x := r.Samples(point)[index]
	for ; x.Edge >= 0; x = r.Samples(x.Point)[x.Index] {
		switch e := edges[x.Edge]; e.Kind {
		case api.EdgePick:
			back = append(back, e.Take)
		case api.EdgeAny:
			back = append(back, x.Value)
		}
		steps++
	}
	for v, b := range r.Graph().Begins() {
		if b.Any && v == x.Value {
			choices = append(choices, 1)
		} else if b.Any {
			choices = append(choices, 0)
		}
	}
	slices.Reverse(back)
	return append(choices, back...), steps
}

func TestExact(t *testing.T) { // P12.10, W4: of a pure program a run comes to each sample, so one breaks each row that is not implied
	s := &stream{6}
	samples, far, broken := 0, 0, 0
	held(t, s, 1200, func(text string, r *solver.Result) {
		g := r.Graph()
		if !g.Pure() {
			return
		}
		for p := range g.Points() {
			var states [][]api.Whole
			for i, x := range r.Samples(p) {
				choices, steps := road(r, p, i)
				at, e := machine.Run(g, choices, steps)
				if e != api.OK || at.Point != p || say(at.State) != say(x.State) || at.Steps != steps || at.Used != len(choices) {
					t.Fatalf("P12.10: %q: a run with %v does not come to %s at %d, but to %s at %d, %v", text, choices, say(x.State), p, say(at.State), at.Point, e)
				}
				samples++
				if steps > 20 {
					far++
				}
				states = append(states, at.State)
			}
			for _, row := range s.rowsOf(r, p) {
				breaks := slices.ContainsFunc(states, func(x []api.Whole) bool { return !meets(x, row) })
				if implied(t, r, p, row) == breaks {
					t.Fatalf("P12.10: %q at %d: %s is broken by a run: %v", text, p, say(row), breaks)
				}
				if breaks {
					broken++
				}
			}
		}
	})
	if samples < 5000 || far < 100 || broken < 3000 {
		t.Errorf("too few of a kind were drawn: %d samples, %d far ones, %d rows", samples, far, broken)
	}
}

func TestAllRows(t *testing.T) { // P12.10: a row holds on all runs just if it is a sum of multiples of Rows: it adds nothing to their rank
	s := &stream{7}
	count := map[bool]int{}
	held(t, s, 600, func(text string, r *solver.Result) {
		n := len(r.Graph().Vars())
		for p := range r.Graph().Points() {
			var rows [][]*big.Rat
			for _, row := range r.Rows(p) {
				rows = append(rows, wholeRats(row))
			}
			for _, row := range s.rowsOf(r, p) {
				inside := len(turned(append(slices.Clone(rows), wholeRats(row)), n+1)) == len(rows)
				if r.Dim(p) < 0 {
					inside = true // what no state meets says everything
				}
				count[inside]++
				if got := implied(t, r, p, row); got != inside {
					t.Fatalf("P12.10: %q at %d: %s implied: %v", text, p, say(row), got)
				}
			}
		}
	})
	if count[true] < 1000 || count[false] < 1000 {
		t.Errorf("too few of a kind were drawn: %v", count)
	}
}

// wholeRats reads whole numbers as fractions.
func wholeRats(l []api.Whole) []*big.Rat {
	var out []*big.Rat
	for _, x := range l {
		out = append(out, new(big.Rat).SetInt(toBig(x)))
	}
	return out
}

func TestFewLooks(t *testing.T) { // P12.11, P12.12, W5
	s := &stream{8}
	held(t, s, 800, func(text string, r *solver.Result) {
		g := r.Graph()
		n, sum := len(g.Vars()), 0
		for _, e := range g.Edges() {
			sum += len(r.Samples(e.From))
		}
		if r.Looks() != sum || sum > len(g.Edges())*(n+1) {
			t.Fatalf("P12.11: %q: %d looks, want %d", text, r.Looks(), sum)
		}
		reached := reachable(g)
		for p := range g.Points() {
			var steps [][]*big.Rat
			samples := r.Samples(p)
			for i := range samples {
				steps = append(steps, plus(wholeRats(samples[i].State), big.NewRat(-1, 1), wholeRats(samples[0].State)))
			}
			span, e := r.Span(p)
			if len(samples) > n+1 || len(samples) > 0 && len(turned(steps, n)) != len(samples)-1 {
				t.Fatalf("P12.11: %q at %d: %s", text, p, sayStates(samples))
			}
			if r.Dim(p) != len(samples)-1 || e != api.OK || span.Dim() != r.Dim(p) || (len(samples) > 0) != reached[p] {
				t.Fatalf("P12.12: %q at %d: %d, %s", text, p, r.Dim(p), sayStates(samples))
			}
		}
	})
}

// reachable says of each point whether a way of edges leads to it from point 0.
func reachable(g *graph.Graph) []bool {
	out := make([]bool, g.Points())
	out[0] = true
	for range g.Points() {
		for _, e := range g.Edges() {
			out[e.To] = out[e.To] || out[e.From]
		}
	}
	return out
}

func TestClosed(t *testing.T) { // P12.13: over each edge what the rows say is carried
	s := &stream{9}
	kinds := make([]int, api.EdgeTest+1)
	held(t, s, 800, func(text string, r *solver.Result) {
		for i, e := range r.Graph().Edges() {
			from, _ := r.Span(e.From)
			to, _ := r.Span(e.To)
			code := api.OK
			switch e.Kind {
			case api.EdgeSet:
				from, code = from.Set(e.Var, e.Row)
			case api.EdgeAny, api.EdgeHard:
				from, code = from.Any(e.Var)
			}
			if code == api.ErrTooBig {
				continue
			}
			if in, code := from.Within(to); !in || code != api.OK {
				t.Fatalf("P12.13: %q: edge %d: %s does not lie within %s", text, i, sayRows(from.Rows()), sayRows(to.Rows()))
			}
			kinds[e.Kind]++
		}
	})
	if slices.Min(kinds[1:]) < 50 {
		t.Errorf("too few of a kind were drawn: %v", kinds)
	}
}

func TestOtherNames(t *testing.T) { // R4: blanks, comments, other signs and other names turn nothing but what is printed
	one := solved(t, "vars x = 0, y = 1; loop { x := x + 1; y := 2 * x - 1; } mark m;")
	two := solved(t, "vars α₁ = 0,β=1;# so\nloop{α₁≔α₁+1;β≔2·α₁−1;}mark n;")
	for p := range one.Graph().Points() {
		if saySamples(one.Samples(p)) != saySamples(two.Samples(p)) || sayRows(one.Rows(p)) != sayRows(two.Rows(p)) || one.Looks() != two.Looks() {
			t.Errorf("R4: %d: %s; %s", p, saySamples(one.Samples(p)), saySamples(two.Samples(p)))
		}
	}
}
