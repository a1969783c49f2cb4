package affine

import (
	"rafter/api"
	"rafter/whole"
)

// Left answers the sum of factor times state, less the right side: 0 just where the state meets the row. ErrArg, if the row has not one number more than the state.
func Left(row, state []api.Whole) (api.Whole, api.Errno) {
	if len(row) != len(state)+1 {
		return api.Whole{}, api.ErrArg
	}
	return whole.Sub(weighed(row, state), row[len(state)]), api.OK
}

// Value answers the sum of factor times state, and what is added. ErrArg, if f has not one number more than the state.
func Value(f, state []api.Whole) (api.Whole, api.Errno) {
	if len(f) != len(state)+1 {
		return api.Whole{}, api.ErrArg
	}
	return whole.Add(weighed(f, state), f[len(state)]), api.OK
}

// Put answers the row that says of a state what row says of it with the variable v becoming f of the state. ErrArg, if row has no number, f has not as many, or there is no variable v.
func Put(row []api.Whole, v int, f []api.Whole) ([]api.Whole, api.Errno) {
	right := len(row) - 1
	if len(f) != len(row) || v < 0 || v >= right {
		return nil, api.ErrArg
	}
	out := make([]api.Whole, len(row))
	for i := range right {
		out[i] = whole.Mul(row[v], f[i])
		if i != v {
			out[i] = whole.Add(row[i], out[i])
		}
	}
	// What f adds stands on the left, and is moved over.
	out[right] = whole.Sub(row[right], whole.Mul(row[v], f[right]))
	return out, api.OK
}

// weighed answers the sum of factor times state; what stands behind the last factor is left out.
func weighed(factors, state []api.Whole) api.Whole {
	var sum api.Whole
	for i, x := range state {
		sum = whole.Add(sum, whole.Mul(factors[i], x))
	}
	return sum
}
