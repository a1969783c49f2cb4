package refute

import (
	"rafter/affine"
	"rafter/api"
	"rafter/graph"
	"rafter/machine"
	"rafter/road"
	"rafter/solver"
	"rafter/whole"
)

// finding is what a search tells.
type finding interface {
	kind() int
}

// holds tells that the row is implied.
type holds struct{}

// lost tells that it is not, and that no run was found.
type lost struct{}

// shown tells of a run that breaks it: the choices and the fuel with which it stands in the state.
type shown struct {
	choices []int
	fuel    int
	state   []api.Whole
}

func (holds) kind() int { return api.FindHolds }
func (lost) kind() int  { return api.FindLost }
func (shown) kind() int { return api.FindShown }

// witness answers a finding as it is told.
func witness(f finding) api.Witness {
	out := api.Witness{Kind: f.kind()}
	if s, ok := f.(shown); ok {
		out.Choices, out.Fuel, out.State = s.choices, s.fuel, s.state
	}
	return out
}

// search goes to the samples of a point that do not meet a row, by rising indexes, until a run breaks it; where all of them meet it, it is implied.
func search(r *solver.Result, point int, row []api.Whole) finding {
	var out finding = holds{}
samples:
	for i, x := range r.Samples(point) {
		if meets(x.State, row) {
			continue
		}
		out = gone(r, point, i, row)
		if _, ok := out.(shown); ok {
			break samples
		}
	}
	return out
}

// gone tells of the run with the choices of a sample's road. It need not come to the sample: where it goes astray it may stand at the point nonetheless, in another state that breaks the row.
func gone(r *solver.Result, point, index int, row []api.Whole) finding {
	choices, fuel, _, _ := road.Choices(r, point, index) // there is such a sample: nothing is refused
	state, ok := broken(r.Graph(), point, row, choices, fuel)
	if !ok {
		return lost{}
	}
	return shown{choices, fuel, state}
}

// broken answers the state in which the run of these choices and this fuel stands, and true, if it stands at the point and that state does not meet the row.
func broken(g *graph.Graph, point int, row []api.Whole, choices []int, fuel int) ([]api.Whole, bool) {
	s, e := machine.Run(g, choices, fuel)
	if e != api.OK || s.Point != point || meets(s.State, row) {
		return nil, false
	}
	return s.State, true
}

// meets says whether a state meets a row, which has one number more.
func meets(state, row []api.Whole) bool {
	left, _ := affine.Left(row, state)
	return whole.Sign(left) == 0
}
