package lang

import (
	"strings"

	"rafter/api"
	"rafter/whole"
)

// expression is an expression, or a part of one. Brackets are none: they say which parts it has.
type expression interface {
	// value answers its value at a state, in memory of its own. It throws ErrDivide and ErrTooBig.
	value(state []api.Whole) api.Whole
}

// number is a number, never below 0.
type number struct{ of api.Whole }

// variable is a variable, and which number of a state it is.
type variable struct {
	name  string
	index int
}

// negation is a minus ahead of an expression.
type negation struct{ of expression }

// operation is a sign between two expressions.
type operation struct {
	sign        string
	left, right expression
}

func (n number) value([]api.Whole) api.Whole { return within(whole.Trim(n.of)) }

func (v variable) value(state []api.Whole) api.Whole { return within(whole.Trim(state[v.index])) }

func (n negation) value(state []api.Whole) api.Whole { return whole.Neg(n.of.value(state)) }

func (o operation) value(state []api.Whole) api.Whole {
	left := o.left.value(state)
	return within(o.reckon(left, o.right.value(state)))
}

// reckon answers what the sign makes of two numbers.
func (o operation) reckon(x, y api.Whole) api.Whole {
	switch o.sign {
	case "+":
		return whole.Add(x, y)
	case "-":
		return whole.Sub(x, y)
	case "*":
		return whole.Mul(x, y)
	}
	q, r, ok := whole.DivMod(x, y)
	if !ok {
		panic(fault{e: api.ErrDivide})
	}
	if o.sign == "/" {
		return q
	}
	return r
}

// within answers x; it throws ErrTooBig, if x has more than MaxWide limbs.
func within(x api.Whole) api.Whole {
	if whole.Limbs(x) > api.MaxWide {
		panic(fault{e: api.ErrTooBig})
	}
	return x
}

// How firmly an expression holds together, when it is written as a part of another one.
const (
	asSum = iota
	asProduct
	asAtom // a negation, too
)

// hold answers how firmly x holds together.
func hold(x expression) int {
	o, ok := x.(operation)
	switch {
	case !ok:
		return asAtom
	case o.sign == "+", o.sign == "-":
		return asSum
	}
	return asProduct
}

// textOf answers an expression as it is written.
func textOf(x expression) string {
	var out strings.Builder
	write(&out, x)
	return out.String()
}

// write writes an expression. What stands on the right must hold together more firmly than the whole, as sums and products are read from the left.
func write(out *strings.Builder, x expression) {
	switch x := x.(type) {
	case number:
		out.WriteString(whole.Text(x.of))
	case variable:
		out.WriteString(x.name)
	case negation:
		out.WriteString("-")
		writePart(out, x.of, asAtom)
	case operation:
		writePart(out, x.left, hold(x))
		out.WriteString(" " + x.sign + " ")
		writePart(out, x.right, hold(x)+1)
	}
}

// writePart writes a part of an expression, in brackets if it holds together less firmly than it must there.
func writePart(out *strings.Builder, x expression, least int) {
	if hold(x) >= least {
		write(out, x)
		return
	}
	out.WriteString("(")
	write(out, x)
	out.WriteString(")")
}
