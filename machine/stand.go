package machine

import (
	"slices"

	"rafter/api"
	"rafter/whole"
)

// stand is where a run stands. Its numbers never change: a step makes a new one, so that it can be looked at and not made.
type stand struct {
	point int
	state []api.Whole
	steps int
	used  int // how many of the choices
}

// behind answers the stand one step further, at the end of an edge.
func (s stand) behind(w way) stand {
	s.point = w.To
	s.steps++
	return s
}

// having answers the stand with x as the variable number v.
func (s stand) having(v int, x api.Whole) stand {
	s.state = slices.Clone(s.state)
	s.state[v] = x
	return s
}

// paying answers the stand with one more of the choices used.
func (s stand) paying() stand {
	s.used++
	return s
}

// copied answers numbers in memory of their own.
func copied(l []api.Whole) []api.Whole {
	var out []api.Whole
	for _, x := range l {
		out = append(out, whole.Trim(x))
	}
	return out
}

// tooWide says whether a number is longer than one on the machine may be.
func tooWide(x api.Whole) bool { return whole.Limbs(x) > api.MaxWide }
