package lang

import (
	"strings"

	"rafter/api"
	"rafter/whole"
)

// Expression is an expression, or a part of one: a Number, a Variable, a Negation or an Operation. Brackets are none: they say which parts it has. It never changes: what a layer above can reach of it is a copy.
type Expression interface {
	// value answers its value at a state, in memory of its own. It throws ErrDivide and ErrTooBig.
	value(state []api.Whole) api.Whole
}

// Number is a number, never below 0.
type Number struct{ of api.Whole }

// Variable is a variable, and which number of a state it is.
type Variable struct {
	Name  string
	Index int
}

// Negation is a minus ahead of an expression.
type Negation struct{ Of Expression }

// Operation is a sign, one of `+ - * / %`, between two expressions.
type Operation struct {
	Sign        string
	Left, Right Expression
}

// Whole answers the number, in memory of its own.
func (n Number) Whole() api.Whole { return whole.Trim(n.of) }

// NumberOf answers the expression that says x, for the layers above: a number, with a minus ahead of it if x is below 0.
func NumberOf(x api.Whole) Expression {
	if whole.Sign(x) < 0 {
		return Negation{Number{whole.Neg(x)}}
	}
	return Number{whole.Trim(x)}
}

func (n Number) value([]api.Whole) api.Whole { return within(n.Whole()) }

func (v Variable) value(state []api.Whole) api.Whole { return within(whole.Trim(state[v.Index])) }

func (n Negation) value(state []api.Whole) api.Whole { return whole.Neg(n.Of.value(state)) }

func (o Operation) value(state []api.Whole) api.Whole {
	left := o.Left.value(state)
	return within(o.reckon(left, o.Right.value(state)))
}

// reckon answers what the sign makes of two numbers.
func (o Operation) reckon(x, y api.Whole) api.Whole {
	switch o.Sign {
	case "+":
		return whole.Add(x, y)
	case "-":
		return whole.Sub(x, y)
	case "*":
		return whole.Mul(x, y)
	}
	q, r, ok := whole.DivMod(x, y)
	if !ok {
		panic(fault{e: api.ErrDivide})
	}
	if o.Sign == "/" {
		return q
	}
	return r
}

// within answers x; it throws ErrTooBig, if x has more than MaxWide limbs.
func within(x api.Whole) api.Whole {
	if whole.Limbs(x) > api.MaxWide {
		panic(fault{e: api.ErrTooBig})
	}
	return x
}

// How firmly an expression holds together, when it is written as a part of another one.
const (
	asSum = iota
	asProduct
	asAtom // a negation, too
)

// hold answers how firmly x holds together.
func hold(x Expression) int {
	o, ok := x.(Operation)
	switch {
	case !ok:
		return asAtom
	case o.Sign == "+", o.Sign == "-":
		return asSum
	}
	return asProduct
}

// textOf answers an expression as it is written.
func textOf(x Expression) string {
	var out strings.Builder
	write(&out, x)
	return out.String()
}

// write writes an expression. What stands on the right must hold together more firmly than the whole, as sums and products are read from the left.
func write(out *strings.Builder, x Expression) {
	switch x := x.(type) {
	case Number:
		out.WriteString(whole.Text(x.of))
	case Variable:
		out.WriteString(x.Name)
	case Negation:
		out.WriteString("-")
		writePart(out, x.Of, asAtom)
	case Operation:
		writePart(out, x.Left, hold(x))
		out.WriteString(" " + x.Sign + " ")
		writePart(out, x.Right, hold(x)+1)
	}
}

// writePart writes a part of an expression, in brackets if it holds together less firmly than it must there.
func writePart(out *strings.Builder, x Expression, least int) {
	if hold(x) >= least {
		write(out, x)
		return
	}
	out.WriteString("(")
	write(out, x)
	out.WriteString(")")
}
