package prune

import (
	"rafter/guard"
	"rafter/lang"
	"rafter/solver"
	"rafter/whole"
)

// turn answers what is left of a row of statements.
type turn func(row []lang.Statement) []lang.Statement

// turning answers the turn of a program of which this was found, and whose statements begin at these points, in the order of the text. It goes through each statement once, in this order, through those too that go: so the first one of starts is always the next statement's.
func turning(found *solver.Result, starts []int) turn {
	var through turn
	through = func(row []lang.Statement) []lang.Statement {
		var out []lang.Statement
		for _, s := range row {
			from := starts[0]
			starts = starts[1:]
			if n, ok := s.(lang.Nest); ok {
				s = within(n, through)
			}
			out = append(out, left(s, found, from)...)
		}
		return out
	}
	return through
}

// within answers a statement with what is left in each of its blocks.
func within(n lang.Nest, through turn) lang.Statement {
	var bodies [][]lang.Statement
	for _, body := range n.Bodies() {
		bodies = append(bodies, through(body))
	}
	return n.With(bodies)
}

// left answers what is left of a statement that begins at a point, when its blocks are pruned.
func left(s lang.Statement, found *solver.Result, from int) []lang.Statement {
	here := hullAt(found, from)
	switch {
	case here.empty(), is[lang.Skip](s):
		return nil
	case is[lang.Set](s):
		return assigned(s.(lang.Set), here)
	case is[lang.If](s):
		return branched(s.(lang.If), here)
	case is[lang.While](s):
		return repeated(s.(lang.While), hullAt(found, ahead(found, from)))
	}
	return []lang.Statement{s}
}

// is says whether a statement is of this kind.
func is[T lang.Statement](s lang.Statement) bool {
	_, ok := s.(T)
	return ok
}

// ahead answers the point to which the one edge leads that leads from a point: where a while begins, its head.
func ahead(found *solver.Result, from int) int {
	g := found.Graph()
	return g.Edges()[g.Out(from)[0]].To
}

// assigned answers what is left of an assignment: nothing, if the variable has the form's value everywhere; the one number that the form is everywhere, if there is one, in the place of the expression.
func assigned(s lang.Set, here hull) []lang.Statement {
	f, ok := guard.FormOf(s.To, here.vars())
	if !ok {
		return []lang.Statement{s}
	}
	if step, ok := here.one(stepOf(f, s.Of.Index)); ok && whole.Sign(step) == 0 {
		return nil
	}
	if c, ok := here.one(valueOf(f)); ok {
		s.To = lang.NumberOf(c)
	}
	return []lang.Statement{s}
}

// branched answers what is left of an if: of one whose condition comes out one way the block that is gone then.
func branched(s lang.If, here hull) []lang.Statement {
	bodies := s.Bodies()
	switch holds, sure := here.outcome(s.When); {
	case !sure:
		return []lang.Statement{s}
	case holds:
		return bodies[0]
	case len(bodies) > 1:
		return bodies[1]
	}
	return nil
}

// repeated answers what is left of a while: nothing, if its condition holds nowhere at its head.
func repeated(s lang.While, head hull) []lang.Statement {
	if holds, sure := head.outcome(s.When); sure && !holds {
		return nil
	}
	return []lang.Statement{s}
}
