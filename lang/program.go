package lang

import (
	"rafter/api"
	"rafter/whole"
)

// program reads a program, and the end.
func (r *reader) program() *Program {
	p := &Program{at: r.token().At}
	r.must("vars")
	if !r.take(";") {
		for more := true; more; more = r.take(",") {
			p.begins = append(p.begins, r.declaration())
		}
		r.must(";")
	}
	for r.token().Kind != api.TokenEnd {
		p.body = append(p.body, r.statement())
	}
	return p
}

// declaration reads a variable, and how it begins.
func (r *reader) declaration() api.Begin {
	name := r.fresh(r.vars)
	if len(r.vars) == api.MaxVars {
		r.fail(api.ErrTooBig)
	}
	r.next++
	r.vars = append(r.vars, name)
	if !r.take("=") {
		return api.Begin{Name: name, Any: true}
	}
	return api.Begin{Name: name, Value: r.signed()}
}

// signed reads a number, with a minus ahead of it or without.
func (r *reader) signed() api.Whole {
	minus := r.take("-")
	if r.token().Kind != api.TokenNumber {
		r.fail(api.ErrSyntax)
	}
	x := r.atom().(Number).of
	if minus {
		return whole.Neg(x)
	}
	return x
}

// statement reads a statement.
func (r *reader) statement() Statement {
	at := r.token().At
	switch {
	case r.take("skip"):
		return r.ended(Skip{spot{at}})
	case r.take("stop"):
		return r.ended(Stop{spot{at}})
	case r.take("mark"):
		return r.ended(Mark{spot{at}, r.mark()})
	case r.take("choose"):
		return r.choose(at)
	case r.take("loop"):
		return Loop{blocks{r.block(at)}}
	case r.take("if"):
		return r.branch(at)
	case r.take("while"):
		when := r.condition()
		return While{when, blocks{r.block(at)}}
	}
	return r.assignment(at)
}

// ended reads the end of a statement, and answers the statement.
func (r *reader) ended(s Statement) Statement {
	r.must(";")
	return s
}

// mark reads the name that a mark gives.
func (r *reader) mark() string {
	name := r.fresh(r.marks)
	r.next++
	r.marks = append(r.marks, name)
	return name
}

// choose reads the blocks of a choose.
func (r *reader) choose(at api.Place) Statement {
	list := blocks{r.block(at)}
	for {
		at = r.token().At
		if !r.take("or") {
			return Choose{list}
		}
		list = append(list, r.block(at))
	}
}

// branch reads the condition and the blocks of an if.
func (r *reader) branch(at api.Place) Statement {
	when := r.condition()
	list := blocks{r.block(at)}
	at = r.token().At
	if r.take("else") {
		list = append(list, r.block(at))
	}
	return If{when, list}
}

// condition reads two expressions and the sign between them.
func (r *reader) condition() Condition {
	left := r.sum()
	sign := r.token().Text
	if !r.take("=") {
		r.must("!=")
	}
	return Condition{left, sign, r.sum()}
}

// block reads a block, which a word at that place opens.
func (r *reader) block(at api.Place) block {
	out := block{spot: spot{at}}
	r.opens("{")
	for !r.stands("}") {
		out.body = append(out.body, r.statement())
	}
	r.closes("}")
	return out
}

// assignment reads a variable, and what it becomes.
func (r *reader) assignment(at api.Place) Statement {
	of := r.variable()
	r.must(":=")
	if r.take("any") {
		return r.ended(Free{spot{at}, of})
	}
	return r.ended(Set{spot{at}, of, r.sum()})
}
