package session

import (
	"slices"
	"sync"

	"rafter/affine"
	"rafter/api"
	"rafter/graph"
	"rafter/lang"
	"rafter/matrix"
	"rafter/relate"
	"rafter/solver"
	"rafter/span"
)

// holding is a program, its graph, and what was found of it. But for its bonds it never changes.
type holding struct {
	*graph.Graph
	*solver.Result
	program *lang.Program
	late    bonds
}

// bonds are how the values at each point hang together with those at the beginning of the run, or why that is not found. To find them is as much work as all that is found in the beginning, and not each session asks for them; so they are made when they are first asked for.
type bonds struct {
	*relate.Relation
	code api.Errno
	made sync.Once
}

// hold answers the program of a text, and what is found of it. What lang.Parse refuses, with its place; what graph.Of or solver.Solve refuses.
func hold(text string) (*holding, api.Errno, api.Place) {
	p, e, at := lang.Parse(text)
	if e != api.OK {
		return nil, e, at
	}
	g, e := graph.Of(p)
	if e != api.OK {
		return nil, e, api.Place{}
	}
	r, e := solver.Solve(g)
	if e != api.OK {
		return nil, e, api.Place{}
	}
	return &holding{Graph: g, Result: r, program: p}, api.OK, api.Place{}
}

// bonds answers the bonds; or what relate.Solve refuses.
func (h *holding) bonds() (*bonds, api.Errno) {
	b := &h.late
	b.made.Do(func() { b.Relation, b.code = relate.Solve(h.Graph) })
	return b, b.code
}

// rows answers the rows that equations say over the variables; or what affine.Equation refuses of the first one that it refuses, with its place.
func (h *holding) rows(equations ...string) ([][]api.Whole, api.Errno, api.Place) {
	vars := h.Vars()
	var out [][]api.Whole
	for _, equation := range equations {
		row, e, at := affine.Equation(equation, vars)
		if e != api.OK {
			return nil, e, at
		}
		out = append(out, row)
	}
	return out, api.OK, api.Place{}
}

// meeting answers the points of a point's hull that meet all rows; ErrTooBig, if they are a span that is too big. All that they must meet is asked at once, since the points that meet a part of it may be too big where these are not; and rows that others tell are left out, since a span takes no more than MaxRows.
func (h *holding) meeting(point int, rows [][]api.Whole) (*span.Span, api.Errno) {
	n := len(h.Vars())
	var asked [][]api.Whole
	for _, row := range slices.Concat(h.Rows(point), rows) {
		if told, _ := matrix.Inside(asked, n+1, row); !told {
			asked = append(asked, row)
		}
	}
	return span.Rows(n, asked)
}
