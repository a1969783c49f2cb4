package session_test

import (
	"math/big"
	"slices"

	"rafter/api"
)

// plus answers a + by b, number by number.
func plus(a []*big.Rat, by *big.Rat, b []*big.Rat) []*big.Rat {
	out := make([]*big.Rat, len(a))
	for i := range a {
		out[i] = new(big.Rat).Mul(by, b[i])
		out[i].Add(out[i], a[i])
	}
	return out
}

// noughts answers count numbers 0.
func noughts(count int) []*big.Rat {
	out := make([]*big.Rat, count)
	for i := range out {
		out[i] = new(big.Rat)
	}
	return out
}

// leads answers where the first number other than 0 stands, -1 if there is none.
func leads(l []*big.Rat) int {
	return slices.IndexFunc(l, func(x *big.Rat) bool { return x.Sign() != 0 })
}

// turned answers rows of the same row space, each one's first number 1 and alone in its column.
func turned(rows [][]*big.Rat, cols int) [][]*big.Rat {
	left, rank := slices.Clone(rows), 0
	for c := range cols {
		at := rank + slices.IndexFunc(left[rank:], func(l []*big.Rat) bool { return l[c].Sign() != 0 })
		if at < rank {
			continue
		}
		left[at], left[rank] = left[rank], left[at]
		left[rank] = plus(noughts(cols), new(big.Rat).Inv(left[rank][c]), left[rank])
		for i := range left {
			if i != rank {
				left[i] = plus(left[i], new(big.Rat).Neg(left[i][c]), left[rank])
			}
		}
		rank++
	}
	return left[:rank]
}

// rats reads whole numbers as fractions.
func rats(l []*big.Int) []*big.Rat {
	var out []*big.Rat
	for _, x := range l {
		out = append(out, new(big.Rat).SetInt(x))
	}
	return out
}

// canonical answers the canonical row that says the same.
func canonical(row []*big.Rat) []*big.Int {
	lead := leads(row)
	if lead < 0 {
		return bigs(make([]api.Whole, len(row)))
	}
	times := new(big.Int).SetInt64(int64(row[lead].Sign()))
	for _, x := range row {
		common := new(big.Int).GCD(nil, nil, new(big.Int).Abs(times), x.Denom())
		times.Mul(times, new(big.Int).Quo(x.Denom(), common))
	}
	common := new(big.Int)
	var out []*big.Int
	for _, x := range row {
		out = append(out, new(big.Rat).Mul(x, new(big.Rat).SetInt(times)).Num())
		common.GCD(nil, nil, common, new(big.Int).Abs(out[len(out)-1]))
	}
	for _, x := range out {
		x.Quo(x, common)
	}
	return out
}

// lowest answers each row as the canonical one.
func lowest(rows [][]*big.Rat) [][]api.Whole {
	var out [][]api.Whole
	for _, row := range rows {
		out = append(out, wholes(canonical(row)))
	}
	return out
}

// flat is the model of the points that meet rows, on fractions: no point, or a base and steps.
type flat struct {
	rows, steps [][]*big.Rat
	base        []*big.Rat
}

// meeting answers the model of the points over n variables that meet rows.
func meeting(n int, rows [][]*big.Rat) flat {
	low := turned(rows, n+1)
	if len(low) > 0 && leads(low[len(low)-1]) == n {
		return flat{rows: low[len(low)-1:]}
	}
	base := noughts(n)
	for _, row := range low {
		base[leads(row)].Set(row[n])
	}
	var steps [][]*big.Rat
	for c := range n {
		if slices.ContainsFunc(low, func(row []*big.Rat) bool { return leads(row) == c }) {
			continue
		}
		step := noughts(n)
		step[c].SetInt64(1)
		for _, row := range low {
			step[leads(row)].Neg(row[c])
		}
		steps = append(steps, step)
	}
	steps = turned(steps, n)
	for _, step := range steps {
		base = plus(base, new(big.Rat).Neg(base[leads(step)]), step)
	}
	return flat{low, steps, base}
}

// tooBig says whether a number of its rows, its steps or its base is too long.
func (m flat) tooBig() bool {
	for _, l := range append(lowest(m.rows), lowest(m.steps)...) {
		if slices.ContainsFunc(bigs(l), tooLong) {
			return true
		}
	}
	return slices.ContainsFunc(m.base, func(x *big.Rat) bool { return tooLong(x.Num()) || tooLong(x.Denom()) })
}
