package solver

import (
	"iter"
	"slices"

	"rafter/affine"
	"rafter/api"
	"rafter/whole"
)

// deed is what an edge does to a sample's numbers: those of the state, and any others behind them.
type deed interface {
	// image answers what becomes of the numbers; value is the one that is put in where any number is. They stay as they are.
	image(numbers []api.Whole, value int) []api.Whole
}

// keep leaves the numbers as they are.
type keep struct{}

// set makes a variable what a form tells.
type set struct {
	v    int
	form []api.Whole
}

// free makes a variable any number.
type free struct{ v int }

// deedOf answers what an edge does: conditions are not asked, and what no form tells may be any number.
func deedOf(e api.Edge) deed {
	switch e.Kind {
	case api.EdgeSet:
		return set{e.Var, e.Row}
	case api.EdgeAny, api.EdgeHard:
		return free{e.Var}
	}
	return keep{}
}

func (keep) image(numbers []api.Whole, _ int) []api.Whole { return numbers }

func (d set) image(numbers []api.Whole, _ int) []api.Whole {
	state := numbers[:len(d.form)-1]
	x, _ := affine.Value(d.form, state) // an edge's form always fits the state
	return having(numbers, d.v, x)
}

func (d free) image(numbers []api.Whole, value int) []api.Whole {
	return having(numbers, d.v, whole.Of(value))
}

// images goes through what becomes of a sample's numbers, each image behind the number that was put in. Where any number is, these are 0 and 1: the line through these two images holds those of all others.
func images(d deed, numbers []api.Whole) iter.Seq2[int, []api.Whole] {
	return func(yield func(int, []api.Whole) bool) {
		if !yield(0, d.image(numbers, 0)) {
			return
		}
		if _, ok := d.(free); ok {
			yield(1, d.image(numbers, 1))
		}
	}
}

// having answers the numbers with x as the variable number v.
func having(numbers []api.Whole, v int, x api.Whole) []api.Whole {
	out := slices.Clone(numbers)
	out[v] = x
	return out
}
