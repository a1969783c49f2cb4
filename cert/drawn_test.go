package cert_test

import (
	"math/big"
	"slices"
	"testing"

	"rafter/api"
	"rafter/cert"
	"rafter/graph"
	"rafter/solver"
)

// job is an edge that may be gone from a sample, with a value.
type job struct{ point, index, edge, value int }

// wander looks for samples in an order of its own, over edges in any order.
type wander struct {
	*stream
	g     *graph.Graph
	edges []api.Edge
	c     []api.CertPoint
	jobs  []job
	long  bool // whether a sample is too long
}

// give gives a point a sample, and the jobs that come of it.
func (w *wander) give(p int, s api.Sample) {
	w.long = w.long || slices.ContainsFunc(s.State, func(x api.Whole) bool { return tooLong(toBig(x)) })
	for _, e := range w.g.Out(p) {
		for value := range 2 {
			if _, ok := imageOf(w.edges[e], s.State, value); ok {
				w.jobs = append(w.jobs, job{p, len(w.c[p].Samples), e, value})
			}
		}
	}
	w.c[p].Samples = append(w.c[p].Samples, s)
	w.c[p].Rows = through(len(w.g.Vars()), states(w.c[p].Samples))
}

// image answers the sample that a job makes.
func (w *wander) image(j job) api.Sample {
	state, _ := imageOf(w.edges[j.edge], w.c[j.point].Samples[j.index].State, j.value)
	return api.Sample{State: state, Point: j.point, Index: j.index, Edge: j.edge, Value: j.value}
}

// take takes a job out of those that wait, any one.
func (w *wander) take() job {
	at := w.below(len(w.jobs))
	out := w.jobs[at]
	w.jobs = slices.Delete(w.jobs, at, at+1)
	return out
}

// begin gives point 0 the samples of the beginning, in any order; of a lazy one not always all.
func (w *wander) begin(lazy bool) {
	all := starts(w.g)
	for len(all) > 0 {
		v := w.below(api.MaxVars+1) - 1
		state, ok := all[v]
		if !ok {
			continue
		}
		delete(all, v)
		if !lazy || w.below(6) > 0 {
			w.give(0, api.Sample{State: state, Point: -1, Index: -1, Edge: -1, Value: v})
		}
	}
}

// wandered answers a certificate of a graph that is found in any order; a lazy one is given up now and then ahead of the end. Where a sample is too long it is given up, too.
func (s *stream) wandered(g *graph.Graph, lazy bool) []api.CertPoint {
	w := &wander{stream: s, g: g, edges: g.Edges(), c: make([]api.CertPoint, g.Points())}
	for p := range w.c {
		w.c[p].Rows = through(len(g.Vars()), nil)
	}
	w.begin(lazy)
	for len(w.jobs) > 0 && !w.long && (!lazy || s.below(30) > 0) {
		j := w.take()
		x := w.image(j)
		if to := w.edges[j.edge].To; !meets(x.State, w.c[to].Rows) {
			w.give(to, x)
		}
	}
	return w.c
}

// more adds samples that lie in the hulls already, where there is room.
func (s *stream) more(g *graph.Graph, c []api.CertPoint) {
	for i, e := range g.Edges() {
		if from := c[e.From].Samples; len(from) > 0 && len(c[e.To].Samples) <= len(g.Vars()) && s.below(3) == 0 {
			at := s.below(len(from))
			state, _ := imageOf(e, from[at].State, 0)
			if meets(state, c[e.To].Rows) {
				c[e.To].Samples = append(c[e.To].Samples, api.Sample{State: state, Point: e.From, Index: at, Edge: i})
			}
		}
	}
}

// bumped answers another number.
func (s *stream) bumped(x api.Whole) api.Whole {
	y := toBig(x)
	switch s.below(8) {
	case 0:
		y.Neg(y)
	case 1:
		y.Mul(y, big.NewInt(2))
	case 2:
		y.Xor(y, power(32*api.MaxLimbs-1, 0))
	case 3:
		y = power(32*api.MaxLimbs, 0)
	}
	if y.Cmp(toBig(x)) == 0 {
		y.Add(y, big.NewInt(int64(1-2*s.below(2))))
	}
	return wholeOf(y)
}

// spoilNumber changes a number of a list, or the list's length.
func (s *stream) spoilNumber(l []api.Whole) []api.Whole {
	switch {
	case s.below(12) == 0:
		return append(l, api.Whole{})
	case len(l) == 0:
		return nil
	case s.below(12) == 0:
		return l[1:]
	}
	i := s.below(len(l))
	l[i] = s.bumped(l[i])
	return l
}

// spoilRows changes something of rows.
func (s *stream) spoilRows(n int, rows [][]api.Whole) [][]api.Whole {
	switch kind := s.below(8); {
	case kind == 0 || len(rows) == 0:
		return append(rows, make([]api.Whole, n+1))
	case kind == 1:
		i := s.below(len(rows))
		return slices.Delete(rows, i, i+1)
	case kind == 2:
		return append(rows, numbersOf(rows[0]))
	case kind == 3:
		i := s.below(len(rows))
		for k, x := range rows[i] {
			rows[i][k] = wholeOf(new(big.Int).Mul(toBig(x), big.NewInt(-2)))
		}
	case kind == 4:
		i, k := s.below(len(rows)), s.below(len(rows))
		rows[i], rows[k] = rows[k], rows[i]
	case kind == 5 && len(rows) > 1:
		for k, x := range rows[1] {
			rows[0][k] = wholeOf(new(big.Int).Add(toBig(rows[0][k]), toBig(x)))
		}
	default:
		i := s.below(len(rows))
		rows[i] = s.spoilNumber(rows[i])
	}
	return rows
}

// spoilLink changes how a sample came.
func (s *stream) spoilLink(x *api.Sample) {
	of := []*int{&x.Point, &x.Index, &x.Edge, &x.Value}[s.below(4)]
	*of = []int{-1, *of + 1, *of - 1, s.below(8), -1 << 63, 1<<63 - 1}[s.below(6)]
}

// relink lets a sample of a point come by any way by which its state comes, one that goes round, too.
func (s *stream) relink(g *graph.Graph, c []api.CertPoint, p int, x *api.Sample) {
	edges := g.Edges()
	var ways []api.Sample
	for _, i := range g.In(p) {
		for k, from := range c[edges[i].From].Samples {
			if len(from.State) != len(g.Vars()) { // it is spoilt already
				continue
			}
			for value := range 2 {
				if state, ok := imageOf(edges[i], from.State, value); ok && say(state) == say(x.State) {
					ways = append(ways, api.Sample{State: x.State, Point: edges[i].From, Index: k, Edge: i, Value: value})
				}
			}
		}
	}
	if len(ways) > 0 {
		*x = ways[s.below(len(ways))]
	}
}

// spoilSamples changes something of a point's samples.
func (s *stream) spoilSamples(g *graph.Graph, c []api.CertPoint, p int) {
	l := c[p].Samples
	if len(l) == 0 {
		c[p].Samples = append(l, api.Sample{State: make([]api.Whole, len(g.Vars())), Point: s.below(3) - 1, Index: -s.below(2), Edge: s.below(3) - 1, Value: -s.below(2)})
		return
	}
	i, k := s.below(len(l)), s.below(len(l))
	switch s.below(8) {
	case 0:
		c[p].Samples = slices.Delete(l, i, i+1)
	case 1:
		c[p].Samples = append(l, l[i])
	case 2:
		l[i], l[k] = l[k], l[i]
	case 3:
		l[i].State = s.spoilNumber(l[i].State)
	case 4, 5:
		s.spoilLink(&l[i])
	default:
		s.relink(g, c, p, &l[i])
	}
}

// spoilt answers a certificate with something changed; now and then the rows are put right for the samples.
func (s *stream) spoilt(g *graph.Graph, c []api.CertPoint) []api.CertPoint {
	out, n := copied(c), len(g.Vars())
	for range 1 + s.below(2) {
		switch p := s.below(len(out)); s.below(10) {
		case 0, 1, 2:
			out[p].Rows = s.spoilRows(n, out[p].Rows)
		case 3:
			for q := range out {
				for i := range out[q].Samples {
					s.relink(g, out, q, &out[q].Samples[i])
				}
			}
		default:
			s.spoilSamples(g, out, p)
		}
	}
	odd := func(s api.Sample) bool { return len(s.State) != n }
	for p, x := range out {
		if s.below(2) == 0 && !slices.ContainsFunc(x.Samples, odd) {
			out[p].Rows = through(n, states(x.Samples))
		}
	}
	switch s.below(30) {
	case 0:
		return out[1:]
	case 1:
		return append(out, api.CertPoint{})
	}
	return out
}

// dressed answers a certificate of the same numbers, in another form.
func (s *stream) dressed(c []api.CertPoint) []api.CertPoint {
	dress := func(l []api.Whole) {
		for i, x := range l {
			if s.below(3) == 0 {
				l[i].Mag = append(x.Mag, 0, 0)
			}
			if toBig(x).Sign() == 0 {
				l[i].Neg = s.below(2) == 0
			}
		}
	}
	out := copied(c)
	for _, x := range out {
		for _, row := range x.Rows {
			dress(row)
		}
		for _, sample := range x.Samples {
			dress(sample.State)
		}
	}
	return out
}

func TestLikeModel(t *testing.T) { // P15.2: certificates of all kinds, most of them wrong
	s := &stream{1}
	met := map[api.Errno]int{}
	drawn(t, s, 250, func(text string, g *graph.Graph) {
		whole, lazy := s.wandered(g, false), s.wandered(g, true)
		all := [][]api.CertPoint{whole, lazy, s.spoilt(g, lazy), s.dressed(whole)}
		for range 5 {
			all = append(all, s.spoilt(g, whole))
		}
		if r, e := solver.Solve(g); e == api.OK {
			all = append(all, cert.Of(r), s.spoilt(g, cert.Of(r)), s.dressed(s.spoilt(g, cert.Of(r))))
		}
		for _, c := range all {
			met[like(t, text, g, c)]++
		}
	})
	for _, code := range []api.Errno{api.OK, api.ErrCert, api.ErrBegin, api.ErrLink, api.ErrHull, api.ErrEdge, api.ErrNumber} {
		if met[code] < 40 {
			t.Errorf("too few of a kind were drawn: %v %d", code, met[code])
		}
	}
}

func TestByValue(t *testing.T) { // P15.2, R5: limbs 0 on top and a sign of 0 turn nothing
	s := &stream{2}
	held(t, s, 150, func(text string, r *solver.Result) {
		g := r.Graph()
		for _, c := range [][]api.CertPoint{cert.Of(r), s.spoilt(g, cert.Of(r)), s.wandered(g, true)} {
			code, at := cert.Check(g, c)
			checks(t, text+" dressed", g, s.dressed(c), code, at)
			if cert.Print(s.dressed(c)) != cert.Print(c) {
				t.Fatalf("P15.3, R5: %q: another text of the same numbers", text)
			}
		}
	})
}
