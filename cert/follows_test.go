package cert_test

import (
	"math/big"
	"slices"
	"testing"

	"rafter/api"
	"rafter/cert"
	"rafter/graph"
	"rafter/machine"
	"rafter/solver"
)

func TestFoundIsTaken(t *testing.T) { // P15.1, P15.5
	s := &stream{3}
	count := 0
	held(t, s, 1500, func(text string, r *solver.Result) {
		c := cert.Of(r)
		if len(c) != r.Graph().Points() {
			t.Fatalf("P15.1: %q: %d entries", text, len(c))
		}
		for p, x := range c {
			want := api.CertPoint{Rows: r.Rows(p), Samples: r.Samples(p)}
			if cert.Print([]api.CertPoint{x}) != cert.Print([]api.CertPoint{want}) {
				t.Fatalf("P15.1: %q at %d", text, p)
			}
		}
		if code, at := cert.Check(r.Graph(), c); code != api.OK || at != 0 {
			t.Fatalf("P15.5: %q: %v at %d", text, code, at)
		}
		count++
	})
	if count < 500 {
		t.Errorf("too few were found: %d", count)
	}
}

// choices draws so many choices. Now and then nearly all lead into a loop.
func (s *stream) choices(count int) []int {
	keen := s.below(3) == 0
	var out []int
	for range count {
		c := s.below(9) - 3
		if keen {
			c |= 1
		}
		out = append(out, c)
	}
	return out
}

// sound fails the test, if a run stands somewhere in a state that does not meet the rows. It answers how many stands were looked at.
func sound(t *testing.T, s *stream, text string, g *graph.Graph, c []api.CertPoint) int {
	t.Helper()
	stands := 0
	for range 3 {
		m, _ := machine.Begin(g, s.choices(s.below(25)))
		for made := 1; made > 0 && m.Tell().Steps < 60; made = m.Go(1) {
			at := m.Tell()
			stands++
			if !meets(at.State, c[at.Point].Rows) {
				t.Fatalf("P15.6: %q at %d: %s does not meet\n%s", text, at.Point, say(at.State), cert.Print(c))
			}
		}
	}
	return stands
}

// road answers the choices and the fuel with which a run goes to a sample, by following it back in the certificate.
func road(g *graph.Graph, c []api.CertPoint, x api.Sample) ([]int, int) {
	edges := g.Edges()
	var back []int // the choices, the last one first
	fuel := 0
	for ; x.Edge >= 0; x = c[x.Point].Samples[x.Index] {
		fuel++
		switch e := edges[x.Edge]; e.Kind {
		case api.EdgePick:
			back = append(back, e.Take)
		case api.EdgeAny:
			back = append(back, x.Value)
		}
	}
	for v, b := range slices.Backward(g.Begins()) {
		if b.Any {
			one := 0
			if v == x.Value {
				one = 1
			}
			back = append(back, one)
		}
	}
	slices.Reverse(back)
	return back, fuel
}

// exact fails the test, if a sample of a pure graph is no state of a run. (The rows are those of the samples' hull, so that a row that is not in their row space is not met by one of these.) It answers how many samples there are.
func exact(t *testing.T, text string, g *graph.Graph, c []api.CertPoint) int {
	t.Helper()
	count := 0
	for p := range c {
		for _, x := range c[p].Samples {
			count++
			choices, fuel := road(g, c, x)
			if s, _ := machine.Run(g, choices, fuel); s.Point != p || say(s.State) != sayRows(states([]api.Sample{x})) {
				t.Fatalf("P15.6: %q: at %d no run stands in %s\n%s", text, p, say(x.State), cert.Print(c))
			}
		}
		if sayRows(through(len(g.Vars()), states(c[p].Samples))) != sayRows(byValue(c[p].Rows)) {
			t.Fatalf("P15.6: %q at %d: the rows are not those of the samples' hull", text, p)
		}
	}
	return count
}

func TestTaken(t *testing.T) { // P15.6, W8: whatever Check takes, whoever wrote it
	s := &stream{4}
	met := map[string]int{}
	drawn(t, s, 350, func(text string, g *graph.Graph) {
		r, e := solver.Solve(g)
		whole := s.wandered(g, false)
		wider := copied(whole)
		s.more(g, wider)
		for i, c := range [][]api.CertPoint{whole, wider, s.spoilt(g, whole), s.spoilt(g, wider), s.wandered(g, true)} {
			if !taken(g, c) {
				continue
			}
			met["stands"] += sound(t, s, text, g, c)
			if g.Pure() {
				met["exact"] += exact(t, text, g, c)
			}
			if e != api.OK {
				continue
			}
			for p := range c {
				if sayRows(byValue(c[p].Rows)) != sayRows(r.Rows(p)) {
					t.Fatalf("P15.6: %q at %d: %s; Solve's are %s", text, p, sayRows(c[p].Rows), sayRows(r.Rows(p)))
				}
			}
			met["found"]++
			if cert.Print(c) != cert.Print(cert.Of(r)) {
				met["other samples"]++
			}
			if i == 1 && cert.Print(c) != cert.Print(whole) {
				met["more samples"]++
			}
		}
	})
	for _, kind := range []string{"stands", "exact", "found", "other samples", "more samples"} {
		if met[kind] < 20 {
			t.Errorf("too few of a kind were drawn: %v", met)
		}
	}
}

// eachChange hands on each of a certificate's numbers of rows and states, to be changed.
func eachChange(c []api.CertPoint, do func(p int, x *api.Whole)) {
	for p := range c {
		for _, row := range c[p].Rows {
			for i := range row {
				do(p, &row[i])
			}
		}
		for _, s := range c[p].Samples {
			for i := range s.State {
				do(p, &s.State[i])
			}
		}
	}
}

func TestChangedIsNotTaken(t *testing.T) { // P15.7: one number changed
	s := &stream{5}
	count := 0
	held(t, s, 30, func(text string, r *solver.Result) {
		g, c := r.Graph(), cert.Of(r)
		eachChange(c, func(p int, x *api.Whole) {
			was := *x
			y := toBig(was)
			for _, z := range []*big.Int{new(big.Int).Add(y, big.NewInt(1)), new(big.Int).Sub(y, big.NewInt(1)), new(big.Int).Neg(y), new(big.Int), power(32*api.MaxLimbs, 0)} {
				if *x = wholeOf(z); z.Cmp(y) != 0 && taken(g, c) {
					t.Fatalf("P15.7: %q at %d: %s in the place of %s", text, p, z, y)
				}
				count++
			}
			*x = was
		})
	})
	if count < 8000 {
		t.Errorf("too few were changed: %d", count)
	}
}

// without answers a list without its i-th element, in memory of its own.
func without[T any](l []T, i int) []T { return slices.Delete(slices.Clone(l), i, i+1) }

// renumbered makes each index of samples of a point that lay behind the i-th one that of a sample further ahead.
func renumbered(c []api.CertPoint, p, i int) {
	for q := range c {
		for k, x := range c[q].Samples {
			if x.Point == p && x.Index > i {
				c[q].Samples[k].Index--
			}
		}
	}
}

func TestLeftOutIsNotTaken(t *testing.T) { // P15.7: one row or one sample left out, as it is and with the indexes put right
	s := &stream{6}
	rows, samples := 0, 0
	held(t, s, 150, func(text string, r *solver.Result) {
		g := r.Graph()
		for p := range g.Points() {
			for i := range r.Rows(p) {
				c := cert.Of(r)
				c[p].Rows = without(c[p].Rows, i)
				rows++
				if taken(g, c) {
					t.Fatalf("P15.7: %q at %d: without the row %d", text, p, i)
				}
			}
			for i := range r.Samples(p) {
				c := cert.Of(r)
				c[p].Samples = without(c[p].Samples, i)
				samples++
				if taken(g, c) {
					t.Fatalf("P15.7: %q at %d: without the sample %d", text, p, i)
				}
				if renumbered(c, p, i); taken(g, c) {
					t.Fatalf("P15.7: %q at %d: without the sample %d, renumbered", text, p, i)
				}
			}
		}
	})
	if rows < 1000 || samples < 1000 {
		t.Errorf("too few were left out: %d, %d", rows, samples)
	}
}
