package machine

import (
	"slices"

	"rafter/affine"
	"rafter/api"
	"rafter/whole"
)

// halt is why no step can be made, and the code of WhyStuck; nothing, where one can.
type halt struct {
	why  int
	code api.Errno
}

// act answers where a step along the edges that lead from a point leads, all of them of one kind; or why none can be made.
type act func(m *Machine, ways []way) (stand, halt)

// acts answers what edges do, by their kinds.
func acts() [api.EdgeTest + 1]act {
	return [api.EdgeTest + 1]act{
		api.EdgeSkip: (*Machine).skip,
		api.EdgeSet:  (*Machine).set,
		api.EdgeAny:  (*Machine).free,
		api.EdgeHard: (*Machine).hard,
		api.EdgePick: (*Machine).pick,
		api.EdgeTest: (*Machine).test,
	}
}

// next answers where the next step leads, or why none can be made. It makes none.
func (m *Machine) next() (stand, halt) {
	ways := m.ways[m.point]
	if len(ways) == 0 {
		return stand{}, halt{why: api.WhyEnd}
	}
	do := acts()[ways[0].Kind]
	return do(m, ways)
}

func (m *Machine) skip(ways []way) (stand, halt) { return m.behind(ways[0]), halt{} }

func (m *Machine) set(ways []way) (stand, halt) {
	w := ways[0]
	x, _ := affine.Value(w.Row, m.state) // an edge's form always fits the state
	if tooWide(x) {
		return stuck(api.ErrTooBig)
	}
	return m.behind(w).having(w.Var, x), halt{}
}

func (m *Machine) free(ways []way) (stand, halt) {
	c, ok := m.choice()
	if !ok {
		return waiting()
	}
	return m.behind(ways[0]).having(ways[0].Var, whole.Of(c)).paying(), halt{}
}

func (m *Machine) hard(ways []way) (stand, halt) {
	w := ways[0]
	x, _, e := m.graph.Reckon(w.number, m.state)
	if e != api.OK {
		return stuck(e)
	}
	return m.behind(w).having(w.Var, x), halt{}
}

func (m *Machine) pick(ways []way) (stand, halt) {
	c, ok := m.choice()
	if !ok {
		return waiting()
	}
	many := ways[0].Many
	take := (c%many + many) % many // what is left of a choice below 0 is not above it
	return m.behind(taken(ways, take)).paying(), halt{}
}

func (m *Machine) test(ways []way) (stand, halt) {
	left, right, e := m.graph.Reckon(ways[0].number, m.state)
	if e != api.OK {
		return stuck(e)
	}
	take := 0
	if whole.Cmp(left, right) == 0 {
		take = 1
	}
	return m.behind(taken(ways, take)), halt{}
}

// choice answers the next choice and true; 0 and false, if none is left.
func (m *Machine) choice() (int, bool) {
	if m.used == len(m.choices) {
		return 0, false
	}
	return m.choices[m.used], true
}

// taken answers the one way with this Take, which each fork has.
func taken(ways []way, take int) way {
	return ways[slices.IndexFunc(ways, func(w way) bool { return w.Take == take })]
}

func waiting() (stand, halt) { return stand{}, halt{why: api.WhyWait} }

func stuck(e api.Errno) (stand, halt) { return stand{}, halt{api.WhyStuck, e} }
