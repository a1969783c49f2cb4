package solver

import (
	"iter"
	"slices"

	"rafter/affine"
	"rafter/api"
	"rafter/whole"
)

// deed is what an edge does to a state.
type deed interface {
	// image answers what becomes of a state; value is the number that is put in where any number is. The state stays as it is.
	image(state []api.Whole, value int) []api.Whole
}

// keep leaves a state as it is.
type keep struct{}

// set makes a variable what a form tells.
type set struct {
	v    int
	form []api.Whole
}

// free makes a variable any number.
type free struct{ v int }

// deedOf answers what an edge does: conditions are not asked, and what no form tells may be any number.
func deedOf(e api.Edge) deed {
	switch e.Kind {
	case api.EdgeSet:
		return set{e.Var, e.Row}
	case api.EdgeAny, api.EdgeHard:
		return free{e.Var}
	}
	return keep{}
}

func (keep) image(state []api.Whole, _ int) []api.Whole { return state }

func (d set) image(state []api.Whole, _ int) []api.Whole {
	x, _ := affine.Value(d.form, state) // an edge's form always fits the state
	return having(state, d.v, x)
}

func (d free) image(state []api.Whole, value int) []api.Whole {
	return having(state, d.v, whole.Of(value))
}

// images goes through what becomes of a state, each image behind the number that was put in. Where any number is, these are 0 and 1: the line through these two images holds those of all others.
func images(d deed, state []api.Whole) iter.Seq2[int, []api.Whole] {
	return func(yield func(int, []api.Whole) bool) {
		if !yield(0, d.image(state, 0)) {
			return
		}
		if _, ok := d.(free); ok {
			yield(1, d.image(state, 1))
		}
	}
}

// having answers the state with x as the variable number v.
func having(state []api.Whole, v int, x api.Whole) []api.Whole {
	out := slices.Clone(state)
	out[v] = x
	return out
}
