package solver

import (
	"slices"

	"rafter/api"
	"rafter/graph"
	"rafter/queue"
	"rafter/ratio"
	"rafter/span"
	"rafter/whole"
)

// Kept is what a search keeps of a sample.
type Kept[T any] interface {
	// Numbers answers all the sample's numbers, those of the state ahead of any others, in the memory in which they are kept.
	Numbers() []api.Whole
	// Next answers what is kept of x, a sample that came from this one. Its State are all its numbers.
	Next(x api.Sample) T
}

// Search answers what is found of each point, when point 0 has these samples, each of n numbers, and how many looks at an edge were made. The variables are a sample's first numbers; all others stay what they were in the beginning. What is answered lies in the memory in which it was found. ErrArg, if g is nil, n is below the number of variables or above 2 MaxVars, or one of the samples has not n numbers; ErrTooBig, if a sample has a number of more than MaxLimbs limbs, or the hull of a point's samples is too big.
func Search[T Kept[T]](g *graph.Graph, begins []T, n int) (Points[T], int, api.Errno) {
	unfit := func(x T) bool { return len(x.Numbers()) != n }
	if pointless(g) || n < len(g.Vars()) || n > 2*api.MaxVars || slices.ContainsFunc(begins, unfit) {
		return nil, 0, api.ErrArg
	}
	s := newSearch[T](g, n)
	for _, x := range begins {
		if e := s.offer(0, x); e != api.OK {
			return nil, 0, e
		}
	}
	if e := s.spread(); e != api.OK {
		return nil, 0, e
	}
	points, e := s.found(n)
	if e != api.OK {
		return nil, 0, e
	}
	return points, s.looks, api.OK
}

// pointless says whether there is no point to begin at: g is nil, or no call made it.
func pointless(g *graph.Graph) bool { return g == nil || g.Points() == 0 }

// search looks for samples, from those of the beginning on, until no pair waits.
type search[T Kept[T]] struct {
	spots []spot[T] // of each point
	waits queue.Queue[pair]
	looks int
}

// spot is a point: the ways that lead from it, by rising numbers of their edges, and its samples.
type spot[T Kept[T]] struct {
	ways    []way
	samples []T
	bounds  bounds // of the samples
}

// way is an edge that leads from a point: its number, its end, and what it does.
type way struct {
	edge, to int
	deed     deed
}

// pair is a point, and the index of a sample of it.
type pair struct{ point, index int }

// newSearch answers the search through a graph for samples of n numbers, ahead of the first one.
func newSearch[T Kept[T]](g *graph.Graph, n int) *search[T] {
	s := &search[T]{spots: make([]spot[T], g.Points())}
	for i := range s.spots {
		s.spots[i].bounds = boundsOfNone(n)
	}
	for i, e := range g.Edges() {
		from := &s.spots[e.From]
		from.ways = append(from.ways, way{i, e.To, deedOf(e)})
	}
	return s
}

// spread works off the pairs that wait. ErrTooBig like offer.
func (s *search[T]) spread() api.Errno {
	for {
		p, ok := s.waits.Take()
		if !ok {
			return api.OK
		}
		if e := s.follow(p); e != api.OK {
			return e
		}
	}
}

// follow looks at each edge that leads from a pair's point, and offers the sample's images to the edge's end. ErrTooBig like offer.
func (s *search[T]) follow(p pair) api.Errno {
	from := s.spots[p.point]
	x := from.samples[p.index]
	for _, w := range from.ways {
		s.looks++
		for value, image := range images(w.deed, x.Numbers()) {
			next := x.Next(api.Sample{State: image, Point: p.point, Index: p.index, Edge: w.edge, Value: value})
			if e := s.offer(w.to, next); e != api.OK {
				return e
			}
		}
	}
	return api.OK
}

// offer makes x the point's next sample, and lets it wait, if it does not lie in the hull of those that are there. ErrTooBig, if it does not, and a number of it is too long: samples stay, so there is no need to go on.
func (s *search[T]) offer(point int, x T) api.Errno {
	at := &s.spots[point]
	misses := at.bounds.misses(x.Numbers())
	if !slices.ContainsFunc(misses, other) {
		return api.OK
	}
	if slices.ContainsFunc(x.Numbers(), tooLong) {
		return api.ErrTooBig
	}
	at.bounds.widen(misses)
	s.waits.Put(pair{point, len(at.samples)})
	at.samples = append(at.samples, x)
	return api.OK
}

// found answers what was found of each point, over n numbers; ErrTooBig, if the hull of one is too big.
func (s *search[T]) found(n int) (Points[T], api.Errno) {
	var out Points[T]
	for _, at := range s.spots {
		hull, e := span.Points(n, spacePoints(at.samples))
		if e != api.OK {
			return nil, e
		}
		out = append(out, Found[T]{at.samples, hull})
	}
	return out, api.OK
}

// spacePoints answers samples as points of space.
func spacePoints[T Kept[T]](samples []T) [][]api.Ratio {
	out := make([][]api.Ratio, len(samples))
	for i, x := range samples {
		for _, y := range x.Numbers() {
			out[i] = append(out[i], ratio.From(y))
		}
	}
	return out
}

// tooLong says whether a number is longer than one that is told may be.
func tooLong(x api.Whole) bool { return whole.Limbs(x) > api.MaxLimbs }
