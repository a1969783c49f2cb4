package affine

import (
	"slices"

	"rafter/api"
	"rafter/glyph"
	"rafter/ratio"
	"rafter/whole"
)

// Equation answers the canonical row that a text says over these variables; or an error, and the place where the text goes wrong. What Scan refuses comes ahead of what no equation goes on with, wherever the two stand.
func Equation(text string, vars []string) ([]api.Whole, api.Errno, api.Place) {
	if e := Names(vars); e != api.OK {
		return nil, e, api.Place{}
	}
	tokens, e, at := glyph.Scan(text)
	switch e {
	case api.OK:
	case api.ErrTooBig:
		return nil, e, at
	default:
		return nil, api.ErrBadEquation, at
	}
	row := make([]api.Ratio, len(vars)+1) // a fraction without a denominator counts as 0
	r := &reader{tokens: tokens, vars: vars}
	if !r.equation(func(i int, x api.Ratio) { row[i] = ratio.Add(row[i], x) }) {
		return nil, api.ErrBadEquation, r.token().At
	}
	out, e := Canon(row)
	return out, e, api.Place{}
}

// adder adds x to number i of a row.
type adder func(i int, x api.Ratio)

// turned answers an adder that takes away what add adds.
func turned(add adder) adder {
	return func(i int, x api.Ratio) { add(i, ratio.Neg(x)) }
}

// reader goes through an equation's tokens from left to right. Each of its parts goes past what it reads and answers true; or answers false, and the reader stands at the token with which no equation goes on. It never goes past the end, which is the last token.
type reader struct {
	tokens []api.Token
	next   int
	vars   []string
}

// token answers the token at which the reader stands.
func (r *reader) token() api.Token { return r.tokens[r.next] }

// equation reads all of an equation. What stands on its right side is moved over, and so turned.
func (r *reader) equation(add adder) bool {
	return r.side(add) && r.sign("=") && r.side(turned(add)) && r.token().Kind == api.TokenEnd
}

// side reads one side of an equation.
func (r *reader) side(add adder) bool {
	minus, _ := r.plusOrMinus()
	for more := true; more; minus, more = r.plusOrMinus() {
		how := add
		if minus {
			how = turned(add)
		}
		if !r.term(how) {
			return false
		}
	}
	return true
}

// term reads a number, a variable, or a number times a variable. A number alone belongs on the row's right side, and so is turned.
func (r *reader) term(add adder) bool {
	factor := ratio.From(whole.Of(1))
	switch r.token().Kind {
	case api.TokenNumber:
		number, ok := r.coef()
		if !ok {
			return false
		}
		if !r.sign("*") && r.token().Kind != api.TokenName {
			add(len(r.vars), ratio.Neg(number))
			return true
		}
		factor = number
		fallthrough
	case api.TokenName:
		return r.variable(factor, add)
	}
	return false
}

// coef reads a number, or two with a slash between; the reader stands at a number. Behind the slash 0 is refused like what is no number.
func (r *reader) coef() (api.Ratio, bool) {
	over := r.number()
	r.next++
	if !r.sign("/") {
		return ratio.From(over), true
	}
	out, e := ratio.Of(over, r.number())
	if e != api.OK {
		return api.Ratio{}, false
	}
	r.next++
	return out, true
}

// number answers the number at which the reader stands; 0, if it stands at another token, whose text is never that of a number.
func (r *reader) number() api.Whole {
	x, _ := whole.Parse(r.token().Text)
	return x
}

// variable reads the name of a variable. Only a name has the text of one.
func (r *reader) variable(factor api.Ratio, add adder) bool {
	i := slices.Index(r.vars, r.token().Text)
	if i < 0 {
		return false
	}
	add(i, factor)
	r.next++
	return true
}

// plusOrMinus reads a plus or a minus, if one is there, and says whether it was a minus, and whether there was one at all.
func (r *reader) plusOrMinus() (minus, found bool) {
	minus = r.sign("-")
	return minus, minus || r.sign("+")
}

// sign reads this sign.
func (r *reader) sign(text string) bool {
	if t := r.token(); t.Kind != api.TokenSign || t.Text != text {
		return false
	}
	r.next++
	return true
}
