package matrix

import (
	"slices"

	"rafter/api"
	"rafter/whole"
)

// turned answers the row of what how makes of each number and its column. What a row's number is, is how's to say: whole numbers become others, or fractions.
func turned[S, T any](row []S, how func(c int, x S) T) []T {
	out := make([]T, len(row))
	for c, x := range row {
		out[c] = how(c, x)
	}
	return out
}

// long says whether a number of the row has more than MaxLimbs limbs.
func long[T any](row []T, limbs func(T) int) bool {
	return slices.ContainsFunc(row, func(x T) bool { return limbs(x) > api.MaxLimbs })
}

// told answers rows whose pivots stand as in echelon form, divided so that they are in it, in memory of their own. ErrTooBig, if a number of them has more than MaxLimbs limbs.
func told(rows [][]api.Whole) ([][]api.Whole, api.Errno) {
	var out [][]api.Whole
	for _, row := range rows {
		by := divisor(row)
		low := turned(row, func(_ int, x api.Whole) api.Whole { return exactly(x, by) })
		if long(low, whole.Limbs) {
			return nil, api.ErrTooBig
		}
		out = append(out, low)
	}
	return out, api.OK
}

// divisor answers the greatest number that divides all of the row, with the sign of the first one other than 0: divided by it, that one is above 0.
func divisor(row []api.Whole) api.Whole {
	var common api.Whole
	sign := 0
	for _, x := range row {
		common = whole.Gcd(common, x)
		if sign == 0 {
			sign = whole.Sign(x)
		}
	}
	if sign < 0 {
		return whole.Neg(common)
	}
	return common
}

// exactly answers x / y, where y divides x.
func exactly(x, y api.Whole) api.Whole {
	q, _, _ := whole.DivMod(x, y)
	return q
}

// other says whether x is another number than 0.
func other(x api.Whole) bool { return whole.Sign(x) != 0 }

// mirrored answers the rows, and the numbers of each, from the last one to the first.
func mirrored(rows [][]api.Whole) [][]api.Whole {
	out := turned(rows, func(_ int, row []api.Whole) []api.Whole {
		back := slices.Clone(row)
		slices.Reverse(back)
		return back
	})
	slices.Reverse(out)
	return out
}

// beside answers the rows with a column more, right.
func beside(rows [][]api.Whole, right []api.Whole) [][]api.Whole {
	return turned(rows, func(i int, row []api.Whole) []api.Whole { return slices.Concat(row, right[i:i+1]) })
}
