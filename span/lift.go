package span

import (
	"slices"

	"rafter/api"
	"rafter/ratio"
	"rafter/whole"
)

// lifted answers a point x as (w x, -w), w being the least number above 0 that makes it whole.
func lifted(point []api.Ratio) []api.Whole {
	w := whole.Of(1)
	for _, r := range point {
		under := ratio.Mul(ratio.From(w), r).Den
		w = whole.Mul(w, api.Whole{Mag: under})
	}
	out := make([]api.Whole, len(point), len(point)+1)
	for i, r := range point {
		out[i], _ = ratio.Whole(ratio.Mul(ratio.From(w), r))
	}
	return append(out, whole.Neg(w))
}

// lowered answers the point that was lifted.
func lowered(lift []api.Whole) []api.Ratio {
	n := len(lift) - 1
	out := make([]api.Ratio, n)
	for i, x := range lift[:n] {
		out[i], _ = ratio.Of(whole.Neg(x), lift[n])
	}
	return out
}

// based moves a lifted point along steps that are in echelon form, until it is 0 where they lead. It throws ErrTooBig, if the point then has a number of more than MaxLimbs limbs.
func based(lift []api.Whole, steps [][]api.Whole) []api.Whole {
	for _, step := range steps {
		lift = cleared(lift, step)
	}
	point := lowered(lift)
	if slices.ContainsFunc(point, func(r api.Ratio) bool { return ratio.Limbs(r) > api.MaxLimbs }) {
		panic(api.ErrTooBig)
	}
	return lifted(point)
}

// cleared answers a multiple of the lifted point, less the multiple of the step that makes it 0 where the step leads.
func cleared(lift, step []api.Whole) []api.Whole {
	at := lead(step)
	out := make([]api.Whole, len(lift))
	for c, x := range lift {
		out[c] = whole.Sub(whole.Mul(step[at], x), whole.Mul(lift[at], step[c]))
	}
	return out
}

// lead answers where the first number other than 0 stands.
func lead(row []api.Whole) int { return slices.IndexFunc(row, other) }

// other says whether x is another number than 0.
func other(x api.Whole) bool { return whole.Sign(x) != 0 }

// makes answers the sum of the products of two lists, number by number.
func makes(a, b []api.Whole) api.Whole {
	var sum api.Whole
	for i, x := range a {
		sum = whole.Add(sum, whole.Mul(x, b[i]))
	}
	return sum
}

// across says whether x makes 0 with all of list.
func across(list [][]api.Whole, x []api.Whole) bool {
	return !slices.ContainsFunc(list, func(l []api.Whole) bool { return other(makes(l, x)) })
}
