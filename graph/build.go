package graph

import (
	"slices"

	"rafter/api"
	"rafter/guard"
	"rafter/lang"
	"rafter/whole"
)

// builder makes a graph by going through a program once. Each of its ways through a statement begins at a point, and answers the one at which the statement ends.
type builder struct {
	*Graph
	vars   int
	starts []int // where each statement begins
	long   bool  // whether a form has a number that is too long
}

// way goes through a statement from a point on.
type way func(s lang.Statement, from int) int

// newBuilder answers the builder of a program, at its beginning.
func newBuilder(p *lang.Program) *builder {
	return &builder{Graph: &Graph{program: p}, vars: len(p.Vars())}
}

// row goes through statements, each of which begins where the one ahead of it ends.
func (b *builder) row(l []lang.Statement, from int) int {
	for _, s := range l {
		b.starts = append(b.starts, from)
		through := b.way(s)
		from = through(s, from)
	}
	return from
}

// way answers the way through a statement of this kind.
func (b *builder) way(s lang.Statement) way {
	switch s.(type) {
	case lang.Set:
		return b.set
	case lang.Free:
		return b.free
	case lang.Skip:
		return b.skip
	case lang.Stop:
		return b.stop
	case lang.Mark:
		return b.mark
	case lang.Choose:
		return b.choose
	case lang.Loop:
		return b.loop
	case lang.If:
		return b.branch
	}
	return b.while
}

func (b *builder) set(s lang.Statement, from int) int {
	set := s.(lang.Set)
	v := set.Of.Index
	form, ok := guard.FormOf(set.To, b.vars)
	if !ok {
		return b.lead(s, from, edge{api.Edge{Kind: api.EdgeHard, Var: v}, []lang.Expression{set.To}})
	}
	b.long = b.long || slices.ContainsFunc(form, tooLong)
	return b.lead(s, from, plain(api.Edge{Kind: api.EdgeSet, Var: v, Row: form}))
}

func (b *builder) free(s lang.Statement, from int) int {
	return b.lead(s, from, plain(api.Edge{Kind: api.EdgeAny, Var: s.(lang.Free).Of.Index}))
}

func (b *builder) skip(s lang.Statement, from int) int { return b.lead(s, from, skipping()) }

// stop leaves the point from which it begins without an edge: no run goes on.
func (b *builder) stop(lang.Statement, int) int { return b.point() }

func (b *builder) mark(s lang.Statement, from int) int {
	b.marks = append(b.marks, mark{s.(lang.Mark).Name, from})
	return from
}

func (b *builder) choose(s lang.Statement, from int) int {
	bodies := s.(lang.Choose).Bodies()
	var into []edge
	for i := range bodies {
		into = append(into, picking(i, len(bodies)))
	}
	return b.fork(s, from, into, bodies)
}

func (b *builder) branch(s lang.Statement, from int) int {
	branch := s.(lang.If)
	holds, fails := b.testing(branch.When)
	bodies := branch.Bodies()
	if len(bodies) == 1 {
		bodies = append(bodies, nil)
	}
	return b.fork(s, from, []edge{holds, fails}, bodies)
}

func (b *builder) loop(s lang.Statement, from int) int {
	return b.round(s, from, picking(1, 2), picking(0, 2), s.(lang.Loop).Bodies()[0])
}

func (b *builder) while(s lang.Statement, from int) int {
	while := s.(lang.While)
	holds, fails := b.testing(while.When)
	return b.round(s, from, holds, fails, while.Bodies()[0])
}

// fork goes through blocks side by side, into each by an edge of its own; behind all of them their ways meet.
func (b *builder) fork(s lang.Statement, from int, into []edge, bodies [][]lang.Statement) int {
	var ends []int
	for i, body := range bodies {
		ends = append(ends, b.row(body, b.lead(s, from, into[i])))
	}
	meet := b.point()
	for _, end := range ends {
		b.link(s, end, meet, skipping())
	}
	return meet
}

// round goes through a block that comes back to the head ahead of it, from where one edge leads into it and one past it.
func (b *builder) round(s lang.Statement, from int, into, past edge, body []lang.Statement) int {
	head := b.lead(s, from, skipping())
	end := b.row(body, b.lead(s, head, into))
	b.link(s, end, head, skipping())
	return b.lead(s, head, past)
}

// point makes a point.
func (b *builder) point() int {
	b.points++
	return b.points - 1
}

// lead makes a point, and this edge of a statement to it.
func (b *builder) lead(s lang.Statement, from int, e edge) int {
	to := b.point()
	b.link(s, from, to, e)
	return to
}

// link makes this edge of a statement between two points.
func (b *builder) link(s lang.Statement, from, to int, e edge) {
	e.From, e.To, e.At = from, to, s.Place()
	b.edges = append(b.edges, e)
}

// plain answers an edge of which there is nothing to reckon.
func plain(e api.Edge) edge { return edge{Edge: e} }

func skipping() edge { return plain(api.Edge{Kind: api.EdgeSkip}) }

func picking(take, many int) edge {
	return plain(api.Edge{Kind: api.EdgePick, Take: take, Many: many})
}

// testing answers the edge that is gone where a condition holds, and the one that is gone where it does not.
func (b *builder) testing(c lang.Condition) (holds, fails edge) {
	row, _ := guard.RowOf(c, b.vars)
	sides := []lang.Expression{c.Left, c.Right}
	equal := edge{api.Edge{Kind: api.EdgeTest, Take: 1, Row: row}, sides}
	apart := edge{api.Edge{Kind: api.EdgeTest, Take: 0, Row: row}, sides}
	if c.Sign == "=" {
		return equal, apart
	}
	return apart, equal
}

// tooLong says whether a number is longer than one that is told may be.
func tooLong(x api.Whole) bool { return whole.Limbs(x) > api.MaxLimbs }
