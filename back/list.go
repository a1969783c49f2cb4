package back

import (
	"slices"

	"rafter/affine"
	"rafter/api"
	"rafter/whole"
)

// list is a list of numbers that an edge moves: a state forth, a row back.
type list interface {
	// vars answers over how many variables it is.
	vars() int
}

// state is a number for each variable.
type state []api.Whole

// row is a factor for each variable, and the right side.
type row []api.Whole

func (s state) vars() int { return len(s) }

func (r row) vars() int { return len(r) - 1 }

// over answers what becomes of a list over an edge; conditions are not asked. Where a variable becomes any number, there are two, one for 0 and one for 1: the line through two states holds those with all other numbers, and where a row is met with these two, it is with all others.
func over(l list, e api.Edge) []list {
	switch e.Kind {
	case api.EdgeSet:
		return []list{moved(l, e.Var, e.Row)}
	case api.EdgeAny, api.EdgeHard:
		n := l.vars()
		return []list{moved(l, e.Var, constant(n, 0)), moved(l, e.Var, constant(n, 1))}
	}
	return []list{l}
}

// moved answers what becomes of a list where the variable v becomes f of the state: of a state the one behind that, of a row the one that says ahead of it what the row says behind. The list stays as it is.
func moved(l list, v int, f []api.Whole) list {
	if s, ok := l.(state); ok {
		behind := slices.Clone(s)
		behind[v], _ = affine.Value(f, s) // a form of the graph always fits its lists
		return behind
	}
	ahead, _ := affine.Put(l.(row), v, f)
	return row(ahead)
}

// constant answers the form over n variables that tells one number.
func constant(n, number int) []api.Whole {
	return append(make([]api.Whole, n), whole.Of(number))
}

// beginnings answers states whose hull holds all those in which a program may begin. A variable that begins with any number becomes so as over an edge.
func beginnings(begins []api.Begin) []list {
	var first state
	for _, b := range begins {
		first = append(first, b.Value)
	}
	out := []list{first}
	for v, b := range begins {
		if b.Any {
			out = append(out, over(first, api.Edge{Kind: api.EdgeAny, Var: v})...)
		}
	}
	return out
}
