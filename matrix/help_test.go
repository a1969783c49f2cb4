package matrix_test

import (
	"math/big"
	"slices"
	"strings"
	"testing"

	"rafter/api"
)

// The tests ask the exported calls alone, and hold them against fractions of math/big, which are turned column by column with rows exchanged: neither the numbers nor the way are those of the package.

var (
	// most is the greatest number of MaxLimbs limbs, past the least one that is too big.
	past = new(big.Int).Lsh(big.NewInt(1), 32*api.MaxLimbs)
	most = new(big.Int).Sub(past, big.NewInt(1))
)

// toNat reads limbs: the sum of a[i] 2^(32 i).
func toNat(a []uint32) *big.Int {
	out := new(big.Int)
	for _, limb := range slices.Backward(a) {
		out.Lsh(out, 32).Or(out, new(big.Int).SetUint64(uint64(limb)))
	}
	return out
}

// toBig reads a whole number.
func toBig(x api.Whole) *big.Int {
	out := toNat(x.Mag)
	if x.Neg {
		out.Neg(out)
	}
	return out
}

// toRat reads a whole number as a fraction.
func toRat(x api.Whole) *big.Rat { return new(big.Rat).SetInt(toBig(x)) }

// natOf answers the one form of a natural.
func natOf(x *big.Int) []uint32 {
	var out []uint32
	for rest := new(big.Int).Set(x); rest.Sign() > 0; rest.Rsh(rest, 32) {
		out = append(out, uint32(new(big.Int).And(rest, big.NewInt(1<<32-1)).Uint64()))
	}
	return out
}

// wholeOf answers the one form of a whole number.
func wholeOf(x *big.Int) api.Whole {
	return api.Whole{Neg: x.Sign() < 0, Mag: natOf(new(big.Int).Abs(x))}
}

// ratioOf answers the one form of a fraction.
func ratioOf(x *big.Rat) api.Ratio {
	return api.Ratio{Num: wholeOf(x.Num()), Den: natOf(x.Denom())}
}

// row answers numbers in their one form, from a text with blanks between. M stands for most, P for past.
func row(s string) []api.Whole {
	s = strings.NewReplacer("M", most.String(), "P", past.String()).Replace(s)
	var out []api.Whole
	for _, w := range strings.Fields(s) {
		x, ok := new(big.Int).SetString(w, 10)
		if !ok {
			panic("no number: " + w)
		}
		out = append(out, wholeOf(x))
	}
	return out
}

// rows answers rows from a text with a ; between two; of the empty text none.
func rows(s string) [][]api.Whole {
	var out [][]api.Whole
	for _, l := range strings.Split(s, ";") {
		if strings.TrimSpace(l) != "" {
			out = append(out, row(l))
		}
	}
	return out
}

// equalWhole says whether two numbers are the same, field for field.
func equalWhole(x, y api.Whole) bool { return x.Neg == y.Neg && slices.Equal(x.Mag, y.Mag) }

// equalRow says whether two rows are the same, field for field.
func equalRow(a, b []api.Whole) bool { return slices.EqualFunc(a, b, equalWhole) }

// equal says whether two matrices are the same, field for field.
func equal(a, b [][]api.Whole) bool { return slices.EqualFunc(a, b, equalRow) }

// equalRatios says whether two lists of fractions are the same, field for field.
func equalRatios(a, b []api.Ratio) bool {
	return slices.EqualFunc(a, b, func(r, s api.Ratio) bool { return equalWhole(r.Num, s.Num) && slices.Equal(r.Den, s.Den) })
}

// same fails the test if two matrices are not the same, field for field, or there was an error.
func same(t *testing.T, what string, got [][]api.Whole, e api.Errno, want [][]api.Whole) {
	t.Helper()
	if e != api.OK || !equal(got, want) {
		t.Fatalf("%s: %v, %v, want %v", what, got, e, want)
	}
}

// makes answers the sum of the products of two rows, number by number.
func makes(a, b []api.Whole) *big.Int {
	out := new(big.Int)
	for i := range a {
		out.Add(out, new(big.Int).Mul(toBig(a[i]), toBig(b[i])))
	}
	return out
}

// turnedRows answers a matrix of fractions, each row's first number 1 and alone in its column; and the determinant, where there are as many rows as columns.
func turnedRows(m [][]api.Whole, cols int) ([][]*big.Rat, *big.Rat) {
	var left [][]*big.Rat
	for _, l := range m {
		var r []*big.Rat
		for _, x := range l {
			r = append(r, toRat(x))
		}
		left = append(left, r)
	}
	rank, det := 0, big.NewRat(1, 1)
	for c := range cols {
		at := rank
		for at < len(left) && left[at][c].Sign() == 0 {
			at++
		}
		if at == len(left) {
			det = new(big.Rat)
			continue
		}
		if at != rank {
			left[at], left[rank] = left[rank], left[at]
			det.Neg(det)
		}
		det.Mul(det, left[rank][c])
		clearColumn(left, rank, c)
		rank++
	}
	return left[:rank], det
}

// clearColumn makes the number c of row at 1, and of all other rows 0.
func clearColumn(m [][]*big.Rat, at, c int) {
	by := new(big.Rat).Inv(m[at][c])
	for _, x := range m[at] {
		x.Mul(x, by)
	}
	for i, r := range m {
		if times := new(big.Rat).Set(r[c]); i != at && times.Sign() != 0 {
			for k, x := range r {
				x.Sub(x, new(big.Rat).Mul(times, m[at][k]))
			}
		}
	}
}

// echelonOf answers the echelon form, and whether it is short enough to be told. Each row is multiplied by the least number that makes it whole: its first number being 1, it then has nothing in common.
func echelonOf(m [][]api.Whole, cols int) ([][]api.Whole, bool) {
	turned, _ := turnedRows(m, cols)
	var out [][]api.Whole
	short := true
	for _, r := range turned {
		times := big.NewInt(1)
		for _, x := range r {
			common := new(big.Int).GCD(nil, nil, times, x.Denom())
			times.Mul(times, new(big.Int).Quo(x.Denom(), common))
		}
		var l []api.Whole
		for _, x := range r {
			n := new(big.Rat).Mul(x, new(big.Rat).SetInt(times)).Num()
			short = short && n.CmpAbs(most) <= 0
			l = append(l, wholeOf(n))
		}
		out = append(out, l)
	}
	return out, short
}

// rankOf answers the rank.
func rankOf(m [][]api.Whole, cols int) int {
	turned, _ := turnedRows(m, cols)
	return len(turned)
}

// pivotsOf answers the columns of the echelon form's pivots.
func pivotsOf(m [][]api.Whole, cols int) []int {
	var out []int
	turned, _ := turnedRows(m, cols)
	for _, r := range turned {
		out = append(out, slices.IndexFunc(r, func(x *big.Rat) bool { return x.Sign() != 0 }))
	}
	return out
}

// stream answers numbers that look as if by chance, the same ones in each run.
type stream struct{ at uint64 }

func (s *stream) next() uint32 {
	s.at = s.at*6364136223846793005 + 1442695040888963407
	return uint32(s.at>>33 ^ s.at>>17)
}

// below answers a number from 0 to n - 1.
func (s *stream) below(n int) int { return int(s.next() % uint32(n)) }

// whole answers a number in any form: mostly a small one or 0, else one of up to n limbs, some of these at an edge or 0 on top.
func (s *stream) whole(n int) api.Whole {
	x := api.Whole{Neg: s.below(2) == 0, Mag: []uint32{uint32(s.below(4))}}
	if n > 0 && s.below(4) == 0 {
		edges := []uint32{0, 1, 1 << 31, 1<<32 - 1}
		x.Mag = make([]uint32, s.below(n+1))
		for i := range x.Mag {
			x.Mag[i] = s.next()
			if s.below(3) == 0 {
				x.Mag[i] = edges[s.below(len(edges))]
			}
		}
	}
	return x
}

// wholes answers count numbers in any form.
func (s *stream) wholes(count, n int) []api.Whole {
	out := make([]api.Whole, count)
	for i := range out {
		out[i] = s.whole(n)
	}
	return out
}

// matrix answers a matrix; every other row of some is a sum of multiples of those ahead, or 0 throughout.
func (s *stream) matrix(count, cols, n int) [][]api.Whole {
	var out [][]api.Whole
	poor := s.below(3) > 0
	for range count {
		l := s.wholes(cols, n)
		if poor && s.below(2) == 0 {
			l = s.mixed(out, cols)
		}
		out = append(out, l)
	}
	return out
}

// mixed answers a sum of small multiples of rows; of none 0 throughout.
func (s *stream) mixed(m [][]api.Whole, cols int) []api.Whole {
	sum := make([]*big.Int, cols)
	for c := range sum {
		sum[c] = new(big.Int)
	}
	for _, l := range m {
		times := big.NewInt(int64(s.below(5) - 2))
		for c, x := range l {
			sum[c].Add(sum[c], new(big.Int).Mul(times, toBig(x)))
		}
	}
	var out []api.Whole
	for _, x := range sum {
		out = append(out, wholeOf(x))
	}
	return out
}

// shape is a matrix and its columns.
type shape struct {
	rows [][]api.Whole
	cols int
}

// some answers matrices of all shapes: without rows, without columns, with more rows than columns and with fewer, and at the limits.
func some() []shape {
	out := []shape{{nil, 0}, {nil, 3}, {nil, api.MaxCols}, {make([][]api.Whole, api.MaxRows), 0}, {rows("0 0; 0 0"), 2}, {rows("0 0 5; 0 -3 0; 7 0 0"), 3}, {rows("0 1; 1 0"), 2}}
	s := &stream{1}
	for cols := range 7 {
		for count := range 9 {
			for n := range 4 {
				out = append(out, shape{s.matrix(count, cols, n), cols})
			}
		}
	}
	for n := range 40 {
		count, cols := 1+s.below(12), 1+s.below(12)
		out = append(out, shape{s.matrix(count, cols, n%6), cols})
	}
	return append(out, shape{s.matrix(api.MaxRows, api.MaxCols, 0), api.MaxCols}, shape{s.matrix(api.MaxRows, 5, 2), 5}, shape{s.matrix(5, api.MaxCols, 2), api.MaxCols}, shape{s.matrix(20, 20, 1), 20})
}
