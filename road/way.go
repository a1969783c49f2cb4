package road

import (
	"rafter/api"
	"rafter/solver"
)

// stop is a sample on a way: the point where it is, its index there, and how it came.
type stop struct {
	point, index int
	came         api.Sample
}

// way is a road as it is found: the samples that it goes through, and the edges of the graph.
type way struct {
	stops []stop
	edges []api.Edge
}

// wayTo answers the way to a sample, from the beginning on; ErrArg, if r is nil; ErrPoint, if there is no such point; ErrArg, if it has no sample of that index.
func wayTo(r *solver.Result, point, index int) (way, api.Errno) {
	if r == nil {
		return way{}, api.ErrArg
	}
	if _, e := r.Span(point); e != api.OK {
		return way{}, e
	}
	if index < 0 || index > r.Dim(point) { // there is one sample more than the dimension tells
		return way{}, api.ErrArg
	}
	w := way{edges: r.Graph().Edges()}
	w.back(r, point, index)
	w.turn()
	return w, api.OK
}

// back gathers the way from a sample back to the beginning. Of what is deferred the last is done first: so the sample itself stands ahead of those that it came from.
func (w *way) back(r *solver.Result, point, index int) {
	came := r.Samples(point)[index]
	if came.Edge >= 0 {
		defer w.back(r, came.Point, came.Index)
	}
	defer func() { w.stops = append(w.stops, stop{point, index, came}) }()
}

// turn turns the way round.
func (w *way) turn() {
	last := len(w.stops) - 1
	for i := range len(w.stops) / 2 {
		w.stops[i], w.stops[last-i] = w.stops[last-i], w.stops[i]
	}
}

// road tells the way as points, indexes and numbers of edges.
func (w *way) road() api.Road {
	out := api.Road{Sure: w.sure()}
	for i, s := range w.stops {
		out.Points = append(out.Points, s.point)
		out.Indexes = append(out.Indexes, s.index)
		if i > 0 {
			out.Edges = append(out.Edges, s.came.Edge)
		}
	}
	return out
}

// sure says whether a run goes the way for sure: what comes of an EdgeHard, and which EdgeTest is gone, hangs on numbers that the samples do not ask.
func (w *way) sure() bool {
	for _, s := range w.stops[1:] {
		if kind := w.edges[s.came.Edge].Kind; kind == api.EdgeHard || kind == api.EdgeTest {
			return false
		}
	}
	return true
}

// choices answers what a run that goes the way takes: for each variable that begins with any number, and then edge by edge.
func (w *way) choices(begins []api.Begin) []int {
	var out []int
	for v, b := range begins {
		switch {
		case b.Any && v == w.stops[0].came.Value:
			out = append(out, 1)
		case b.Any:
			out = append(out, 0)
		}
	}
	for _, s := range w.stops[1:] {
		switch e := w.edges[s.came.Edge]; e.Kind {
		case api.EdgePick:
			out = append(out, e.Take)
		case api.EdgeAny:
			out = append(out, s.came.Value)
		}
	}
	return out
}
