package solver

import (
	"slices"

	"rafter/api"
	"rafter/graph"
	"rafter/queue"
	"rafter/ratio"
	"rafter/span"
	"rafter/whole"
)

// search looks for samples, from those of the beginning on, until no pair waits.
type search struct {
	spots []spot // of each point
	waits queue.Queue[pair]
	looks int
}

// spot is a point: the ways that lead from it, by rising numbers of their edges, and its samples.
type spot struct {
	ways    []way
	samples []api.Sample
	bounds  bounds // of the samples
}

// way is an edge that leads from a point: its number, its end, and what it does.
type way struct {
	edge, to int
	deed     deed
}

// pair is a point, and the index of a sample of it.
type pair struct{ point, index int }

// newSearch answers the search through a graph, ahead of the first sample.
func newSearch(g *graph.Graph) *search {
	s := &search{spots: make([]spot, g.Points())}
	n := len(g.Vars())
	for i := range s.spots {
		s.spots[i].bounds = boundsOfNone(n)
	}
	for i, e := range g.Edges() {
		from := &s.spots[e.From]
		from.ways = append(from.ways, way{i, e.To, deedOf(e)})
	}
	return s
}

// begin gives point 0 its samples: one with 0 for each variable that begins with any number, and for each of these variables one in which it is 1. ErrTooBig like offer.
func (s *search) begin(begins []api.Begin) api.Errno {
	var state []api.Whole
	for _, b := range begins {
		state = append(state, b.Value) // 0 of one that begins with any number
	}
	e := s.offer(0, first(state, -1))
	for v, b := range begins {
		if b.Any && e == api.OK {
			e = s.offer(0, first(having(state, v, whole.Of(1)), v))
		}
	}
	return e
}

// first answers a sample of the beginning, in which the variable v is 1 (none, if v is -1).
func first(state []api.Whole, v int) api.Sample {
	return api.Sample{State: state, Point: -1, Index: -1, Edge: -1, Value: v}
}

// spread works off the pairs that wait. ErrTooBig like offer.
func (s *search) spread() api.Errno {
	for {
		p, ok := s.waits.Take()
		if !ok {
			return api.OK
		}
		if e := s.follow(p); e != api.OK {
			return e
		}
	}
}

// follow looks at each edge that leads from a pair's point, and offers the sample's images to the edge's end. ErrTooBig like offer.
func (s *search) follow(p pair) api.Errno {
	from := s.spots[p.point]
	state := from.samples[p.index].State
	for _, w := range from.ways {
		s.looks++
		for value, image := range images(w.deed, state) {
			e := s.offer(w.to, api.Sample{State: image, Point: p.point, Index: p.index, Edge: w.edge, Value: value})
			if e != api.OK {
				return e
			}
		}
	}
	return api.OK
}

// offer makes x the point's next sample, and lets it wait, if it does not lie in the hull of those that are there. ErrTooBig, if it does not, and a number of it is too long: samples stay, so there is no need to go on.
func (s *search) offer(point int, x api.Sample) api.Errno {
	at := &s.spots[point]
	misses := at.bounds.misses(x.State)
	if !slices.ContainsFunc(misses, other) {
		return api.OK
	}
	if slices.ContainsFunc(x.State, tooLong) {
		return api.ErrTooBig
	}
	at.bounds.widen(misses)
	s.waits.Put(pair{point, len(at.samples)})
	at.samples = append(at.samples, x)
	return api.OK
}

// found answers what was found of each point, over n variables; ErrTooBig, if the hull of one is too big.
func (s *search) found(n int) ([]found, api.Errno) {
	var out []found
	for _, at := range s.spots {
		hull, e := span.Points(n, states(at.samples))
		if e != api.OK {
			return nil, e
		}
		out = append(out, found{at.samples, hull})
	}
	return out, api.OK
}

// states answers the samples' states as points of space.
func states(samples []api.Sample) [][]api.Ratio {
	out := make([][]api.Ratio, len(samples))
	for i, x := range samples {
		for _, y := range x.State {
			out[i] = append(out[i], ratio.From(y))
		}
	}
	return out
}

// tooLong says whether a number is longer than one that is told may be.
func tooLong(x api.Whole) bool { return whole.Limbs(x) > api.MaxLimbs }
