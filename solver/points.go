package solver

import (
	"rafter/api"
	"rafter/span"
)

// Points is what a search found of each point of a graph, T being what it kept of a sample.
type Points[T any] []Found[T]

// Found is what was found of a point: the samples, in the order in which they came, and their hull.
type Found[T any] struct {
	Samples []T
	Hull    *span.Span
}

// At answers what was found of a point, and true; nothing and false, if there is no such point.
func (p Points[T]) At(point int) (Found[T], bool) {
	if point < 0 || point >= len(p) {
		return Found[T]{}, false
	}
	return p[point], true
}

// Rows answers the equations, in echelon form, of the hull of a point's samples.
func (p Points[T]) Rows(point int) [][]api.Whole {
	f, ok := p.At(point)
	if !ok {
		return nil
	}
	return f.Hull.Rows()
}

// Dim answers the dimension of the hull of a point's samples: -1 of no sample, and each one adds 1, since it lies outside of the hull of those ahead of it.
func (p Points[T]) Dim(point int) int {
	f, _ := p.At(point)
	return len(f.Samples) - 1
}

// Implied says whether all samples of a point meet a row; ErrPoint, if there is no such point; ErrArg, if the row has not one number more than a sample.
func (p Points[T]) Implied(point int, row []api.Whole) (bool, api.Errno) {
	f, ok := p.At(point)
	if !ok {
		return false, api.ErrPoint
	}
	return f.Hull.Holds(row)
}

// Print answers the equations of the hull of a point's samples as a text, a line each, over these names; ErrPoint, if there is no such point.
func (p Points[T]) Print(point int, names []string) (string, api.Errno) {
	f, ok := p.At(point)
	if !ok {
		return "", api.ErrPoint
	}
	return f.Hull.Print(names)
}
