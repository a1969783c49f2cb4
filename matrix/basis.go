package matrix

import (
	"slices"

	"rafter/api"
	"rafter/whole"
)

// basis is made of independent rows, and has their row space. It is in echelon form, but that one number, lead, stands at all pivots. lead is the determinant of the rows it is made of, in the pivots' columns alone; all other numbers are such determinants, too, with one column exchanged. So all are whole, and only as long as determinants are.
type basis struct {
	rows   [][]api.Whole
	pivots []int // the column of each row's pivot, rising
	lead   api.Whole
}

// gather makes the basis of rows, whose pivots are looked for in the first cols columns alone. torn: the rows make one that is 0 in all of these, but not behind them.
func gather(rows [][]api.Whole, cols int) (b basis, torn bool) {
	b.lead = whole.Of(1)
next:
	for _, row := range rows {
		left := b.left(row)
		for c, x := range left[:cols] {
			if other(x) {
				b.take(left, c)
				continue next
			}
		}
		torn = torn || slices.ContainsFunc(left, other)
	}
	return b, torn
}

// left answers what is left of lead times a row when multiples of the basis have made it 0 in the pivots' columns. It is 0 throughout just if the row is in the row space.
func (b *basis) left(row []api.Whole) []api.Whole {
	return turned(row, func(c int, x api.Whole) api.Whole {
		if slices.Contains(b.pivots, c) {
			return api.Whole{}
		}
		sum := whole.Mul(b.lead, x)
		for i, p := range b.pivots {
			sum = whole.Sub(sum, whole.Mul(row[p], b.rows[i][c]))
		}
		return sum
	})
}

// take adds what is left of a row to the basis; its first number other than 0 stands in column c. The division leaves nothing, what is divided being the old lead times a determinant; without it the numbers' length would double with each row.
func (b *basis) take(left []api.Whole, c int) {
	at, _ := slices.BinarySearch(b.pivots, c)
	if (len(b.pivots)-at)%2 == 1 {
		// The column goes ahead of an odd number of others, which turns the determinant's sign.
		left = turned(left, func(_ int, x api.Whole) api.Whole { return whole.Neg(x) })
	}
	for i, row := range b.rows {
		b.rows[i] = turned(row, func(k int, x api.Whole) api.Whole {
			cleared := whole.Sub(whole.Mul(left[c], x), whole.Mul(row[c], left[k]))
			return exactly(cleared, b.lead)
		})
	}
	b.rows = slices.Insert(b.rows, at, left)
	b.pivots = slices.Insert(b.pivots, at, c)
	b.lead = left[c]
}

// across answers a row for each column without a pivot: it makes 0 with all of the basis, and is 0 in the other columns without one.
func (b *basis) across(cols int) [][]api.Whole {
	var out [][]api.Whole
	for c := range cols {
		if slices.Contains(b.pivots, c) {
			continue
		}
		row := make([]api.Whole, cols)
		row[c] = b.lead
		for i, p := range b.pivots {
			row[p] = whole.Neg(b.rows[i][c])
		}
		out = append(out, row)
	}
	return out
}
