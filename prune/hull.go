package prune

import (
	"rafter/affine"
	"rafter/api"
	"rafter/guard"
	"rafter/lang"
	"rafter/solver"
	"rafter/whole"
)

// hull is the least span that holds a point's samples, told by these. What an affine expression is on all of it, it is at the samples: so numbers of any length can be asked.
type hull []api.Sample

// reckoning answers what an affine expression is at a state.
type reckoning func(state []api.Whole) api.Whole

// hullAt answers the hull of a point's samples.
func hullAt(found *solver.Result, point int) hull { return found.Samples(point) }

func (h hull) empty() bool { return len(h) == 0 }

// vars answers over how many variables a hull is that is not empty.
func (h hull) vars() int { return len(h[0].State) }

// one answers the one number that an affine expression is everywhere on a hull that is not empty, and true; 0 and false, if it is more than one there.
func (h hull) one(reckon reckoning) (api.Whole, bool) {
	c := reckon(h[0].State)
	for _, x := range h[1:] {
		if whole.Cmp(reckon(x.State), c) != 0 {
			return api.Whole{}, false
		}
	}
	return c, true
}

// outcome answers whether a condition holds, and true, if it is the same everywhere on a hull that is not empty; false and false, if it tells no row, or comes out both ways. A row that is met at some points, and not at all of them, takes more than one number there.
func (h hull) outcome(c lang.Condition) (holds, sure bool) {
	row, ok := guard.RowOf(c, h.vars())
	if !ok {
		return false, false
	}
	gap, ok := h.one(gapOf(row))
	if !ok {
		return false, false
	}
	equal := whole.Sign(gap) == 0
	return equal == (c.Sign == "="), true
}

// valueOf answers what a form is at a state.
func valueOf(f []api.Whole) reckoning {
	return func(state []api.Whole) api.Whole {
		x, _ := affine.Value(f, state) // a form of the program fits
		return x
	}
}

// stepOf answers by how much the variable v changes at a state, when it becomes the form.
func stepOf(f []api.Whole, v int) reckoning {
	value := valueOf(f)
	return func(state []api.Whole) api.Whole { return whole.Sub(value(state), state[v]) }
}

// gapOf answers by how much a state misses a row.
func gapOf(row []api.Whole) reckoning {
	return func(state []api.Whole) api.Whole {
		x, _ := affine.Left(row, state) // a row of the program fits
		return x
	}
}
