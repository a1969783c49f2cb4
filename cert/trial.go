package cert

import (
	"slices"

	"rafter/affine"
	"rafter/api"
	"rafter/matrix"
	"rafter/whole"
)

// trial is a certificate that is held against a graph: how its variables begin, its edges, and what is said of each of its points. What is asked later leans on what was asked ahead of it.
type trial struct {
	begins []api.Begin
	edges  []api.Edge
	points []api.CertPoint
}

// shapes throws ErrCert, where lists are too long, or numbers too many or too few.
func (t trial) shapes() {
	n := len(t.begins)
	oddRow := func(row []api.Whole) bool { return len(row) != n+1 }
	oddSample := func(s api.Sample) bool { return len(s.State) != n }
	for p, x := range t.points {
		demand(len(x.Rows) <= n+1 && len(x.Samples) <= n+1, api.ErrCert, p)
		demand(!slices.ContainsFunc(x.Rows, oddRow) && !slices.ContainsFunc(x.Samples, oddSample), api.ErrCert, p)
	}
}

// lengths throws ErrNumber, where a number is too long.
func (t trial) lengths() {
	long := func(x api.Whole) bool { return whole.Limbs(x) > api.MaxLimbs }
	longRow := func(row []api.Whole) bool { return slices.ContainsFunc(row, long) }
	longSample := func(s api.Sample) bool { return longRow(s.State) }
	for p, x := range t.points {
		demand(!slices.ContainsFunc(x.Rows, longRow) && !slices.ContainsFunc(x.Samples, longSample), api.ErrNumber, p)
	}
}

// hulls throws ErrHull, where the rows are not those that the hull of the samples tells.
func (t trial) hulls() {
	for p, x := range t.points {
		rows, e := hullRows(x.Samples, len(t.begins))
		demand(e == api.OK && slices.EqualFunc(rows, x.Rows, same), api.ErrHull, p)
	}
}

// hullRows answers the rows that the hull of the samples tells. It is not asked of span, which refuses a hull whose points are too long to be told, though its rows are not.
func hullRows(samples []api.Sample, n int) ([][]api.Whole, api.Errno) {
	if len(samples) == 0 {
		return [][]api.Whole{append(make([]api.Whole, n), whole.Of(1))}, api.OK
	}
	var lifted [][]api.Whole // a row makes 0 with (state, -1) just if the state meets it
	for _, s := range samples {
		lifted = append(lifted, append(slices.Clone(s.State), whole.Of(-1)))
	}
	return matrix.Kernel(lifted, n+1)
}

// links throws ErrLink, where a sample is neither of the beginning nor comes from another one, or where following it back leads to none of the beginning.
func (t trial) links() {
	for p, x := range t.points {
		for _, s := range x.Samples {
			demand(t.begun(p, s) || t.comes(p, s), api.ErrLink, p)
			demand(t.rooted(p, s), api.ErrLink, p)
		}
	}
}

// begun says whether a sample of a point is one of the beginning.
func (t trial) begun(point int, s api.Sample) bool {
	from := []int{s.Point, s.Index, s.Edge}
	if point != 0 || !slices.Equal(from, []int{-1, -1, -1}) {
		return false
	}
	return slices.Contains(t.ones(), s.Value) && same(s.State, t.start(s.Value))
}

// comes says whether a sample of a point comes from another sample, over an edge.
func (t trial) comes(point int, s api.Sample) bool {
	from, ok := t.behind(s)
	if !ok || s.Edge < 0 || s.Edge >= len(t.edges) {
		return false
	}
	e := t.edges[s.Edge]
	if e.From != s.Point || e.To != point || !slices.Contains(values(e), s.Value) {
		return false
	}
	return same(s.State, image(e, from.State, s.Value))
}

// behind answers the sample that Point and Index name, and true; none and false, if there is no such one.
func (t trial) behind(s api.Sample) (api.Sample, bool) {
	if s.Point < 0 || s.Point >= len(t.points) {
		return api.Sample{}, false
	}
	of := t.points[s.Point].Samples
	if s.Index < 0 || s.Index >= len(of) {
		return api.Sample{}, false
	}
	return of[s.Index], true
}

// rooted says whether following a sample back comes to one of the beginning. A way with more samples than there are goes round.
func (t trial) rooted(point int, s api.Sample) bool {
	for range t.count() {
		if t.begun(point, s) {
			return true
		}
		from, ok := t.behind(s)
		if !ok {
			return false
		}
		point, s = s.Point, from
	}
	return false
}

// count answers how many samples there are in all.
func (t trial) count() int {
	out := 0
	for _, x := range t.points {
		out += len(x.Samples)
	}
	return out
}

// beginning throws ErrBegin, if a state of the beginning does not meet the rows of point 0.
func (t trial) beginning() {
	for _, v := range t.ones() {
		demand(meets(t.start(v), t.points[0].Rows), api.ErrBegin, 0)
	}
}

// carried throws ErrEdge, where what becomes of the points that meet the rows of an edge's beginning does not lie within those that meet the rows of its end. By now the samples are known to have them as their hull; and what becomes of a hull is the hull of what becomes of the samples, however long the numbers are.
func (t trial) carried() {
	for i, e := range t.edges {
		for _, s := range t.points[e.From].Samples {
			for _, v := range values(e) {
				demand(meets(image(e, s.State, v), t.points[e.To].Rows), api.ErrEdge, i)
			}
		}
	}
}

// ones answers which variable is 1 in each state of the beginning; -1, where none is.
func (t trial) ones() []int {
	out := []int{-1}
	for v, b := range t.begins {
		if b.Any {
			out = append(out, v)
		}
	}
	return out
}

// start answers the state of the beginning in which the variable number one is 1; -1: none.
func (t trial) start(one int) []api.Whole {
	var out []api.Whole
	for v, b := range t.begins {
		switch {
		case !b.Any:
			out = append(out, b.Value)
		case v == one:
			out = append(out, whole.Of(1))
		default:
			out = append(out, whole.Of(0))
		}
	}
	return out
}

// values answers the numbers with which an edge makes its images: where any number is, the line through those of 0 and 1 holds all others.
func values(e api.Edge) []int {
	if e.Kind == api.EdgeAny || e.Kind == api.EdgeHard {
		return []int{0, 1}
	}
	return []int{0}
}

// image answers what becomes of a state over an edge; value is put in where any number is.
func image(e api.Edge, state []api.Whole, value int) []api.Whole {
	out := slices.Clone(state)
	switch e.Kind {
	case api.EdgeSet:
		out[e.Var], _ = affine.Value(e.Row, state) // an edge's form always fits the state
	case api.EdgeAny, api.EdgeHard:
		out[e.Var] = whole.Of(value)
	}
	return out
}

// meets says whether a state meets all rows.
func meets(state []api.Whole, rows [][]api.Whole) bool {
	return !slices.ContainsFunc(rows, func(row []api.Whole) bool {
		left, _ := affine.Left(row, state) // all of them fit by now
		return whole.Sign(left) != 0
	})
}

// same says whether two lists have the same numbers, by their value.
func same(a, b []api.Whole) bool {
	return slices.EqualFunc(a, b, func(x, y api.Whole) bool { return whole.Cmp(x, y) == 0 })
}
