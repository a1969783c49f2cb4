package road_test

import (
	"slices"
	"testing"

	"rafter/api"
	"rafter/road"
	"rafter/solver"
)

// known is what must be told of a sample.
type known struct {
	road    api.Road
	choices []int
}

// first answers what must be told of a sample of the beginning.
func first(r *solver.Result, index int, x api.Sample) known {
	out := known{road: api.Road{Points: []int{0}, Indexes: []int{index}, Sure: true}}
	for v, b := range r.Graph().Begins() {
		if b.Any {
			one := 0
			if v == x.Value {
				one = 1
			}
			out.choices = append(out.choices, one)
		}
	}
	return out
}

// next answers what must be told of a sample that came from another one over an edge.
func (k known) next(point, index int, x api.Sample, over api.Edge) known {
	out := known{api.Road{
		Points:  append(slices.Clone(k.road.Points), point),
		Indexes: append(slices.Clone(k.road.Indexes), index),
		Edges:   append(slices.Clone(k.road.Edges), x.Edge),
		Sure:    k.road.Sure && over.Kind != api.EdgeHard && over.Kind != api.EdgeTest,
	}, slices.Clone(k.choices)}
	switch over.Kind {
	case api.EdgePick:
		out.choices = append(out.choices, over.Take)
	case api.EdgeAny:
		out.choices = append(out.choices, x.Value)
	}
	return out
}

// spot is a sample: its point and its index.
type spot struct{ point, index int }

// model answers what must be told of all samples: in rounds, each one as soon as it is known of where it came from.
func model(r *solver.Result) map[spot]known {
	out, edges := map[spot]known{}, r.Graph().Edges()
	for was := -1; was < len(out); {
		was = len(out)
		for p := range r.Graph().Points() {
			for i, x := range r.Samples(p) {
				if x.Edge < 0 {
					out[spot{p, i}] = first(r, i, x)
				} else if k, ok := out[spot{x.Point, x.Index}]; ok {
					out[spot{p, i}] = k.next(p, i, x, edges[x.Edge])
				}
			}
		}
	}
	return out
}

// likeModel fails the test, if To or Choices tell something else of a sample than must be told.
func likeModel(t *testing.T, text string, r *solver.Result, at spot, k known) {
	t.Helper()
	w, e := road.To(r, at.point, at.index)
	if e != api.OK || sayRoad(w) != sayRoad(k.road) {
		t.Fatalf("P13.2: %q %v: %s, %v; want %s", text, at, sayRoad(w), e, sayRoad(k.road))
	}
	choices, fuel, sure, e := road.Choices(r, at.point, at.index)
	if e != api.OK || !slices.Equal(choices, k.choices) || fuel != len(k.road.Edges) || sure != k.road.Sure {
		t.Fatalf("P13.3: %q %v: %v, %d, %v, %v; want %v, %d, %v", text, at, choices, fuel, sure, e, k.choices, len(k.road.Edges), k.road.Sure)
	}
}

func TestLikeModel(t *testing.T) { // P13.1 to P13.3
	s := &stream{1}
	count := map[bool]int{}
	far := 0
	held(t, s, 600, func(text string, r *solver.Result) {
		all := model(r)
		for p := range r.Graph().Points() {
			for i := range r.Samples(p) {
				k, ok := all[spot{p, i}]
				if !ok {
					t.Fatalf("P13.1: %q: no way to sample %d of %d", text, i, p)
				}
				likeModel(t, text, r, spot{p, i}, k)
				count[k.road.Sure]++
				if len(k.road.Edges) > 25 {
					far++
				}
			}
		}
	})
	if count[true] < 2000 || count[false] < 1500 || far < 300 {
		t.Errorf("too few of a kind were drawn: %v, %d far ones", count, far)
	}
}
