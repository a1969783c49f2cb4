package affine

import (
	"rafter/api"
	"rafter/ratio"
	"rafter/whole"
)

// Canon answers the canonical row that says the same as a row of fractions; ErrArg, if it has no number; ErrTooBig, if the canonical one has a number of more than MaxLimbs limbs.
func Canon(row []api.Ratio) ([]api.Whole, api.Errno) {
	if len(row) == 0 {
		return nil, api.ErrArg
	}
	out := reduced(cleared(row))
	for _, x := range out {
		if whole.Limbs(x) > api.MaxLimbs {
			return nil, api.ErrTooBig
		}
	}
	return out, api.OK
}

// Canonical says whether the row's numbers have no divisor in common above 1 and the first that is not 0 is above 0, or all are 0. Of no number it is false.
func Canonical(row []api.Whole) bool {
	by := divisor(row)
	return len(row) > 0 && whole.Sign(by) >= 0 && whole.Cmp(by, whole.Of(1)) <= 0
}

// cleared answers the row times the least number above 0 that makes all of it whole.
func cleared(row []api.Ratio) []api.Whole {
	low := make([]api.Ratio, len(row))
	common := whole.Of(1)
	for i, r := range row {
		low[i] = ratio.Trim(r)
		under := api.Whole{Mag: low[i].Den}
		common = whole.Mul(common, exactly(under, whole.Gcd(common, under)))
	}
	out := make([]api.Whole, len(row))
	for i, r := range low {
		out[i] = whole.Mul(r.Num, exactly(common, api.Whole{Mag: r.Den}))
	}
	return out
}

// reduced answers a row of whole numbers as the canonical one that says the same.
func reduced(row []api.Whole) []api.Whole {
	by := divisor(row)
	out := make([]api.Whole, len(row))
	for i, x := range row {
		out[i] = exactly(x, by)
	}
	return out
}

// divisor answers the greatest number that divides all of the row, with the sign of the first one that is not 0: divided by it, that one is above 0. It is 0 of a row of 0 throughout.
func divisor(row []api.Whole) api.Whole {
	var common api.Whole
	sign := 0
	for _, x := range row {
		common = whole.Gcd(common, x)
		if sign == 0 {
			sign = whole.Sign(x)
		}
	}
	if sign < 0 {
		return whole.Neg(common)
	}
	return common
}

// exactly answers x / y, where y divides x; of 0 and 0 it is 0.
func exactly(x, y api.Whole) api.Whole {
	q, _, _ := whole.DivMod(x, y)
	return q
}
