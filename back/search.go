package back

import (
	"rafter/affine"
	"rafter/api"
	"rafter/graph"
	"rafter/matrix"
	"rafter/queue"
	"rafter/ratio"
	"rafter/span"
)

// search looks for needs, from the row that is asked for on, until no pair waits.
type search struct {
	graph *graph.Graph
	edges []api.Edge
	needs [][][]api.Whole // of each point
	waits queue.Queue[pair]
	looks int
}

// pair is a point, and a need of it.
type pair struct {
	point int
	need  row
}

// newSearch answers the search through a graph, ahead of the first need.
func newSearch(g *graph.Graph) *search {
	return &search{graph: g, edges: g.Edges(), needs: make([][][]api.Whole, g.Points())}
}

// spread works off the pairs that wait. ErrTooBig like offer.
func (s *search) spread() api.Errno {
	for {
		p, ok := s.waits.Take()
		if !ok {
			return api.OK
		}
		if e := s.follow(p); e != api.OK {
			return e
		}
	}
}

// follow looks at each edge that leads to a pair's point, and offers to the edge's beginning what the need becomes there. ErrTooBig like offer.
func (s *search) follow(p pair) api.Errno {
	for _, i := range s.graph.In(p.point) {
		s.looks++
		for _, ahead := range over(p.need, s.edges[i]) {
			if e := s.offer(s.edges[i].From, ahead.(row)); e != api.OK {
				return e
			}
		}
	}
	return api.OK
}

// offer makes the canonical form of r the point's next need, and lets it wait, if r is not told by those that are there. ErrTooBig, if it is not, and a number of the canonical form is too long: needs stay, so there is no need to go on. What is told is asked first, since a row that is told may be of any length.
func (s *search) offer(point int, r row) api.Errno {
	if told, _ := matrix.Inside(s.needs[point], len(r), r); told { // a row always fits the needs
		return api.OK
	}
	need, e := affine.Canon(fractions(r))
	if e != api.OK {
		return e
	}
	s.needs[point] = append(s.needs[point], need)
	s.waits.Put(pair{point, need})
	return api.OK
}

// spans answers for each point the points of space, over n variables, that meet all its needs; ErrTooBig, if one of these spans is too big.
func (s *search) spans(n int) ([]*span.Span, api.Errno) {
	var out []*span.Span
	for _, needs := range s.needs {
		met, e := span.Rows(n, needs)
		if e != api.OK {
			return nil, e
		}
		out = append(out, met)
	}
	return out, api.OK
}

// fractions answers whole numbers as fractions.
func fractions(l []api.Whole) []api.Ratio {
	out := make([]api.Ratio, len(l))
	for i, x := range l {
		out[i] = ratio.From(x)
	}
	return out
}
