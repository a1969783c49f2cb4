package solver

import (
	"slices"

	"rafter/affine"
	"rafter/api"
	"rafter/whole"
)

// bounds are rows that all samples of a point meet, and of which all others that they meet are sums of multiples: so numbers lie in the samples' hull just if they meet each of the bounds. A span can't be asked that, for the hull of a point's first samples may be too big where that of all is not.
//
// Each of the rows has lead in a column of its own, in which all others have 0; the numbers in the remaining columns, one column a sample, are determinants of the samples in these. So none is longer than determinants are.
type bounds struct {
	rows [][]api.Whole
	lead api.Whole
}

// boundsOfNone answers the bounds of no sample of n numbers: each row is a sum of multiples of these.
func boundsOfNone(n int) bounds {
	b := bounds{lead: whole.Of(1)}
	for c := range n + 1 {
		row := make([]api.Whole, n+1)
		row[c] = b.lead
		b.rows = append(b.rows, row)
	}
	return b
}

// misses answers of each row by how much a sample's numbers miss it: 0, where it is met.
func (b *bounds) misses(numbers []api.Whole) []api.Whole {
	var out []api.Whole
	for _, row := range b.rows {
		miss, _ := affine.Left(row, numbers) // a row always fits the numbers
		out = append(out, miss)
	}
	return out
}

// widen makes the bounds those of one sample more, which misses them by so much. One row that is missed goes, and as much of it is taken from each other row as makes that one met. What is divided are determinants times the old lead: nothing is left, and without it the numbers' length would double with each sample.
func (b *bounds) widen(misses []api.Whole) {
	at := len(misses) - 1
	for !other(misses[at]) { // from the right side on: there the first sample's miss is the shortest
		at--
	}
	gone, miss := b.rows[at], misses[at]
	rows := slices.Delete(b.rows, at, at+1)
	misses = slices.Delete(misses, at, at+1)
	for i, row := range rows {
		for c, x := range row {
			left := whole.Sub(whole.Mul(miss, x), whole.Mul(misses[i], gone[c]))
			row[c], _, _ = whole.DivMod(left, b.lead)
		}
	}
	b.rows, b.lead = rows, miss
}

// other says whether x is another number than 0.
func other(x api.Whole) bool { return whole.Sign(x) != 0 }
