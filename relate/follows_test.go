package relate_test

import (
	"slices"
	"testing"

	"rafter/api"
	"rafter/graph"
	"rafter/machine"
	"rafter/relate"
	"rafter/solver"
)

func TestSound(t *testing.T) { // P17.4, W10: at each stand of each run
	s := &stream{5}
	stands, tested, stuck := 0, 0, 0
	held(t, s, 600, func(text string, g *graph.Graph, r *relate.Relation) {
		asked := make([][][]api.Whole, g.Points())
		for p := range asked {
			asked[p] = r.Rows(p)
			for _, row := range s.rowsOf(r, p) {
				if implied(t, r, p, row) {
					asked[p] = append(asked[p], row)
				}
			}
		}
		for range 4 {
			choices := s.choices(s.below(30))
			m, _ := machine.Begin(g, choices)
			begin := m.Tell().State
			for made := 1; made > 0 && m.Tell().Steps < 80; made = m.Go(1) {
				at := m.Tell()
				stands++
				pair := slices.Concat(at.State, begin)
				for _, row := range asked[at.Point] {
					if !meets(pair, row) {
						t.Fatalf("P17.4: %q with %v at %d: %s does not meet %s", text, choices, at.Point, say(pair), say(row))
					}
				}
			}
			if m.Tell().Why == api.WhyStuck {
				stuck++
			}
		}
		if !g.Pure() {
			tested++
		}
	})
	if stands < 10000 || tested < 100 || stuck < 10 {
		t.Errorf("too few of a kind were drawn: %d stands, %d not pure, %d stuck", stands, tested, stuck)
	}
}

// atPoint answers a row over the variables laid on the first numbers of a pair.
func atPoint(row []api.Whole) []api.Whole {
	n := len(row) - 1
	return slices.Concat(row[:n], make([]api.Whole, n), row[n:])
}

// atBeginning answers a row over the variables laid on the last numbers of a pair.
func atBeginning(row []api.Whole) []api.Whole {
	return slices.Concat(make([]api.Whole, len(row)-1), row)
}

// stateRows answers rows over the variables: drawn ones, those that the solver tells of a point, and these with another right side.
func (s *stream) stateRows(r *solver.Result, point int) [][]api.Whole {
	n := len(r.Graph().Vars())
	out := [][]api.Whole{s.row(n), make([]api.Whole, n+1)}
	for _, row := range r.Rows(point) {
		turned := slices.Clone(row)
		turned[n] = added(row[n], s.below(3)-1, numbers("1")[0])
		out = append(out, row, turned)
	}
	return out
}

// both draws programs of which both relate and solver find something, and hands on what that is.
func both(t *testing.T, s *stream, count int, do func(text string, r *relate.Relation, alone *solver.Result)) {
	t.Helper()
	held(t, s, count, func(text string, g *graph.Graph, r *relate.Relation) {
		if alone, e := solver.Solve(g); e == api.OK {
			do(text, r, alone)
		}
	})
}

func TestAtThePointAlone(t *testing.T) { // P17.6: a row without factors for the beginning is what it is without a beginning
	s := &stream{7}
	count := map[bool]int{}
	both(t, s, 400, func(text string, r *relate.Relation, alone *solver.Result) {
		for p := range alone.Graph().Points() {
			for _, row := range s.stateRows(alone, p) {
				want, e := alone.Implied(p, row)
				count[want]++
				if got := implied(t, r, p, atPoint(row)); got != want || e != api.OK {
					t.Fatalf("P17.6: %q at %d: %s: %v", text, p, say(row), got)
				}
			}
		}
	})
	if count[true] < 1000 || count[false] < 1000 {
		t.Errorf("too few of a kind were drawn: %v", count)
	}
}

func TestWhereItBegins(t *testing.T) { // P17.6: at point 0 each variable is what it was
	s := &stream{8}
	held(t, s, 300, func(text string, g *graph.Graph, r *relate.Relation) {
		for _, x := range g.Vars() {
			if is, e, at := r.Text(0, x+" = "+x+"°"); !is || e != api.OK || at != (api.Place{}) {
				t.Fatalf("P17.6: %q: %s: %v, %v, %v", text, x, is, e, at)
			}
		}
	})
}

func TestOfTheBeginningAlone(t *testing.T) { // P17.7: what all beginnings meet is implied everywhere; what one does not, where no run comes
	s := &stream{9}
	count := map[bool]int{}
	both(t, s, 400, func(text string, r *relate.Relation, alone *solver.Result) {
		for _, row := range s.stateRows(alone, 0) {
			all, e := alone.Implied(0, row)
			if e != api.OK {
				t.Fatalf("P12.6: %v", e)
			}
			for p := range alone.Graph().Points() {
				want := all || alone.Dim(p) < 0
				count[want]++
				if got := implied(t, r, p, atBeginning(row)); got != want {
					t.Fatalf("P17.7: %q at %d: %s: %v", text, p, say(row), got)
				}
			}
		}
	})
	if count[true] < 1000 || count[false] < 1000 {
		t.Errorf("too few of a kind were drawn: %v", count)
	}
}

func TestNoSmaller(t *testing.T) { // P17.3: each pair adds one dimension to the hull; there are some just where there are samples, and no fewer
	s := &stream{11}
	both(t, s, 400, func(text string, r *relate.Relation, alone *solver.Result) {
		n := len(alone.Graph().Vars())
		for p := range alone.Graph().Points() {
			dim, rows := r.Dim(p), len(r.Rows(p))
			if len(r.Samples(p)) != dim+1 || dim > 2*n || dim >= 0 && rows != 2*n-dim || dim < 0 && rows != 1 {
				t.Fatalf("P17.3: %q at %d: %d, %d rows, %s", text, p, dim, rows, sayRows(r.Samples(p)))
			}
			if was := alone.Dim(p); dim < was || (dim < 0) != (was < 0) || dim > was+alone.Dim(0) {
				t.Fatalf("P17.6: %q at %d: %d, of states alone %d", text, p, dim, was)
			}
		}
	})
}

func TestOtherNames(t *testing.T) { // R4: blanks, comments, other signs and other names turn nothing but names
	one := relatedOf(t, "vars x, y = 1; loop { x := x + 1; y := 2 * x - 1; } mark m;")
	two := relatedOf(t, "vars α₁,β=1;# so\nloop{α₁≔α₁+1;β≔2·α₁−1;}mark n;")
	for p := range 7 {
		if sayRows(one.Samples(p)) != sayRows(two.Samples(p)) || sayRows(one.Rows(p)) != sayRows(two.Rows(p)) {
			t.Errorf("R4: %d: %s; %s", p, sayRows(one.Samples(p)), sayRows(two.Samples(p)))
		}
	}
}
