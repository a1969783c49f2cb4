package ratio

import (
	"rafter/api"
	"rafter/whole"
)

// Neg answers -r.
func Neg(r api.Ratio) api.Ratio {
	num, den := terms(r)
	return lowest(whole.Neg(num), den)
}

// Add answers r + s.
func Add(r, s api.Ratio) api.Ratio { return join(r, s, whole.Add) }

// Sub answers r - s.
func Sub(r, s api.Ratio) api.Ratio { return join(r, s, whole.Sub) }

// Mul answers r s.
func Mul(r, s api.Ratio) api.Ratio {
	numR, denR := terms(r)
	numS, denS := terms(s)
	return lowest(whole.Mul(numR, numS), whole.Mul(denR, denS))
}

// Div answers r / s; ErrDivide, if s is 0.
func Div(r, s api.Ratio) (api.Ratio, api.Errno) {
	numR, denR := terms(r)
	numS, denS := terms(s)
	return Of(whole.Mul(numR, denS), whole.Mul(denR, numS))
}

// Floor answers the greatest whole number that is not above r.
func Floor(r api.Ratio) api.Whole {
	down, _ := divide(r)
	return down
}

// Whole answers r and true, if it is whole; else 0 and false.
func Whole(r api.Ratio) (api.Whole, bool) {
	down, left := divide(r)
	if whole.Sign(left) != 0 {
		return api.Whole{}, false
	}
	return down, true
}

// join brings r and s over one denominator, and puts the numerators together by how.
func join(r, s api.Ratio, how func(x, y api.Whole) api.Whole) api.Ratio {
	numR, denR := terms(r)
	numS, denS := terms(s)
	num := how(whole.Mul(numR, denS), whole.Mul(numS, denR))
	return lowest(num, whole.Mul(denR, denS))
}

// divide answers r rounded down, and what the denominator leaves of the numerator: it is never below 0, which makes the rounding go down on both sides of 0.
func divide(r api.Ratio) (down, left api.Whole) {
	num, den := terms(r)
	down, left, _ = whole.DivMod(num, den)
	return down, left
}
