package guard

import (
	"rafter/affine"
	"rafter/api"
	"rafter/lang"
	"rafter/ratio"
	"rafter/whole"
)

// shape is what an expression comes to: a form, or formless.
type shape interface {
	// negated answers the shape with a minus ahead.
	negated() shape
	// joined answers the shape with a sign and another one behind it.
	joined(sign string, right shape) shape
}

// form is what an expression that has one is told as: the factors of the variables, in their order, and what is added. No two of its numbers share memory.
type form []api.Whole

// formless is an expression without a form, and all that it is a part of, even times 0.
type formless struct{}

func (formless) negated() shape { return formless{} }

func (formless) joined(string, shape) shape { return formless{} }

func (f form) negated() shape { return f.times(whole.Of(-1)) }

func (f form) joined(sign string, right shape) shape {
	g, ok := right.(form)
	if !ok {
		return formless{}
	}
	switch sign {
	case "+":
		return f.with(g, whole.Add)
	case "-":
		return f.with(g, whole.Sub)
	case "*":
		return f.product(g)
	}
	return f.divided(sign, g)
}

// formOf answers the form of an expression over so many variables and true; none and false, if it has none.
func formOf(x lang.Expression, vars int) (form, bool) {
	f, ok := shapeOf(x, vars).(form)
	return f, ok
}

// shapeOf answers what an expression over so many variables comes to. It hangs on how the expression is written: nothing but what its parts come to is asked.
func shapeOf(x lang.Expression, vars int) shape {
	switch x := x.(type) {
	case lang.Number:
		return alone(x.Whole(), vars, vars)
	case lang.Variable:
		return alone(whole.Of(1), x.Index, vars)
	case lang.Negation:
		return shapeOf(x.Of, vars).negated()
	case lang.Operation:
		return shapeOf(x.Left, vars).joined(x.Sign, shapeOf(x.Right, vars))
	}
	return formless{}
}

// RowOf answers, for the layers above, the canonical row that says that both sides of a condition are equal and true; none and false, if one of them has no form or the row is too long.
func RowOf(c lang.Condition, vars int) ([]api.Whole, bool) {
	left, ok := formOf(c.Left, vars)
	right, both := formOf(c.Right, vars)
	if !ok || !both {
		return nil, false
	}
	row := make([]api.Ratio, vars+1)
	for i, x := range left.with(right, whole.Sub) {
		row[i] = ratio.From(x)
	}
	row[vars] = ratio.Neg(row[vars]) // what is added stands on the row's other side
	out, e := affine.Canon(row)
	return out, e == api.OK
}

// alone answers the form over so many variables whose number i is x, and all others 0.
func alone(x api.Whole, i, vars int) form {
	out := make(form, vars+1)
	out[i] = x
	return out
}

// vars answers over how many variables f is.
func (f form) vars() int { return len(f) - 1 }

// added answers what is added: all of a constant.
func (f form) added() api.Whole { return f[f.vars()] }

// constant says whether f has no factor other than 0.
func (f form) constant() bool {
	for _, x := range f[:f.vars()] {
		if whole.Sign(x) != 0 {
			return false
		}
	}
	return true
}

// with answers what do makes of the numbers of f and g, one by one.
func (f form) with(g form, do func(x, y api.Whole) api.Whole) form {
	out := make(form, len(f))
	for i := range f {
		out[i] = do(f[i], g[i])
	}
	return out
}

// times answers f times a number.
func (f form) times(k api.Whole) form {
	out := make(form, len(f))
	for i := range f {
		out[i] = whole.Mul(f[i], k)
	}
	return out
}

// product answers f times g, of which one must be a constant.
func (f form) product(g form) shape {
	switch {
	case f.constant():
		return g.times(f.added())
	case g.constant():
		return f.times(g.added())
	}
	return formless{}
}

// divided answers the quotient or the rest of f and g, both of which must be constants: even x / 1 has no form.
func (f form) divided(sign string, g form) shape {
	if !f.constant() || !g.constant() {
		return formless{}
	}
	q, r, ok := whole.DivMod(f.added(), g.added())
	switch {
	case !ok:
		return formless{}
	case sign == "/":
		return alone(q, f.vars(), f.vars())
	}
	return alone(r, f.vars(), f.vars())
}
