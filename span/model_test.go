package span_test

import (
	"math/big"
	"slices"
	"testing"

	"rafter/api"
	"rafter/span"
)

// flat is the model of a span, by points alone: the empty one, or a point and steps. They are found column by column, with rows exchanged, on fractions: neither the numbers nor the way are those of the package.
type flat struct {
	n     int
	some  bool
	base  []*big.Rat
	steps [][]*big.Rat // each one's first number is 1, and alone in its column
}

// toRats reads lists of numbers.
func toRats[T any](l [][]T, read func(T) *big.Rat) [][]*big.Rat {
	out := make([][]*big.Rat, len(l))
	for i, p := range l {
		for _, x := range p {
			out[i] = append(out[i], read(x))
		}
	}
	return out
}

// wholeRat reads a whole number as a fraction.
func wholeRat(x api.Whole) *big.Rat { return new(big.Rat).SetInt(toBig(x)) }

// plus answers a + by b, number by number.
func plus(a []*big.Rat, by *big.Rat, b []*big.Rat) []*big.Rat {
	out := make([]*big.Rat, len(a))
	for i := range a {
		out[i] = new(big.Rat).Mul(by, b[i])
		out[i].Add(out[i], a[i])
	}
	return out
}

// dot answers the sum of the products, number by number, as far as b goes.
func dot(a, b []*big.Rat) *big.Rat {
	out := new(big.Rat)
	for i := range b {
		out.Add(out, new(big.Rat).Mul(a[i], b[i]))
	}
	return out
}

// first answers where the first number other than 0 stands, -1 if there is none.
func first(l []*big.Rat) int {
	return slices.IndexFunc(l, func(x *big.Rat) bool { return x.Sign() != 0 })
}

// turned answers rows of the same row space, each one's first number 1 and alone in its column.
func turned(rows [][]*big.Rat, cols int) [][]*big.Rat {
	left, rank := slices.Clone(rows), 0
	for c := range cols {
		at := rank + slices.IndexFunc(left[rank:], func(l []*big.Rat) bool { return l[c].Sign() != 0 })
		if at < rank {
			continue
		}
		left[at], left[rank] = left[rank], left[at]
		nought := make([]*big.Rat, cols)
		for i := range nought {
			nought[i] = new(big.Rat)
		}
		left[rank] = plus(nought, new(big.Rat).Inv(left[rank][c]), left[rank])
		for i := range left {
			if i != rank {
				left[i] = plus(left[i], new(big.Rat).Neg(left[i][c]), left[rank])
			}
		}
		rank++
	}
	return left[:rank]
}

// hull answers the model through points.
func hull(n int, points [][]*big.Rat) flat {
	if len(points) == 0 {
		return flat{n: n}
	}
	var steps [][]*big.Rat
	for _, p := range points[1:] {
		steps = append(steps, plus(p, big.NewRat(-1, 1), points[0]))
	}
	out := flat{n, true, points[0], turned(steps, n)}
	out.base = out.less(out.base)
	return out
}

// less answers what is left of a list when multiples of the steps have made it 0 where they lead.
func (m flat) less(p []*big.Rat) []*big.Rat {
	for _, step := range m.steps {
		p = plus(p, new(big.Rat).Neg(p[first(step)]), step)
	}
	return p
}

// corners answers points through which just this model goes.
func (m flat) corners() [][]*big.Rat {
	if !m.some {
		return nil
	}
	out := [][]*big.Rat{m.base}
	for _, step := range m.steps {
		out = append(out, plus(m.base, big.NewRat(1, 1), step))
	}
	return out
}

// has says whether a point is one of its points.
func (m flat) has(p []*big.Rat) bool {
	return m.some && first(m.less(plus(p, big.NewRat(-1, 1), m.base))) < 0
}

// holds says whether all its points meet a row.
func (m flat) holds(row []*big.Rat) bool {
	return !slices.ContainsFunc(m.corners(), func(p []*big.Rat) bool { return dot(row, p).Cmp(row[m.n]) != 0 })
}

// within says whether all its points are o's.
func (m flat) within(o flat) bool {
	return !slices.ContainsFunc(m.corners(), func(p []*big.Rat) bool { return !o.has(p) })
}

// across answers a row that makes 0 with all of list, for each column in which no row of it leads; list is turned.
func across(list [][]*big.Rat, cols int) [][]*big.Rat {
	var out [][]*big.Rat
	for c := range cols {
		if slices.ContainsFunc(list, func(l []*big.Rat) bool { return first(l) == c }) {
			continue
		}
		r := make([]*big.Rat, cols)
		for i := range r {
			r[i] = new(big.Rat)
		}
		r[c].SetInt64(1)
		for _, l := range list {
			r[first(l)] = new(big.Rat).Neg(l[c])
		}
		out = append(out, r)
	}
	return out
}

// rows answers its equations, turned.
func (m flat) rows() [][]*big.Rat {
	if !m.some {
		return [][]*big.Rat{unit(m.n+1, m.n)}
	}
	var out [][]*big.Rat
	for _, r := range across(m.steps, m.n) {
		out = append(out, append(r, dot(r, m.base)))
	}
	return turned(out, m.n+1)
}

// unit answers count numbers 0, and 1 in the column c.
func unit(count, c int) []*big.Rat {
	out := make([]*big.Rat, count)
	for i := range out {
		out[i] = new(big.Rat)
	}
	out[c].SetInt64(1)
	return out
}

// solved answers the model of the points that meet rows.
func solved(n int, rows [][]*big.Rat) flat {
	low := turned(rows, n+1)
	at := make([]*big.Rat, n)
	for i := range at {
		at[i] = new(big.Rat)
	}
	var factors [][]*big.Rat
	for _, r := range low {
		if first(r) == n {
			return flat{n: n}
		}
		at[first(r)] = r[n]
		factors = append(factors, r[:n])
	}
	out := flat{n, true, at, turned(across(factors, n), n)}
	out.base = out.less(out.base)
	return out
}

// join, meet, set, free, before and every are Join, Meet, Set, Any, Before and Every of models.
func (m flat) join(o flat) flat { return hull(m.n, append(m.corners(), o.corners()...)) }

func (m flat) meet(o flat) flat { return solved(m.n, append(m.rows(), o.rows()...)) }

func (m flat) set(v int, f []*big.Rat) flat {
	out := m.corners()
	for i, p := range out {
		out[i] = slices.Clone(p)
		out[i][v] = new(big.Rat).Add(dot(f, p), f[m.n])
	}
	return hull(m.n, out)
}

func (m flat) free(v int) flat {
	out := m.corners()
	for _, p := range m.corners() {
		out = append(out, plus(p, big.NewRat(1, 1), unit(m.n, v)))
	}
	return hull(m.n, out)
}

func (m flat) before(v int, f []*big.Rat) flat {
	out := m.rows()
	for i, r := range out {
		by := r[v]
		out[i] = slices.Clone(r)
		out[i][v] = new(big.Rat)
		out[i] = plus(out[i], by, append(slices.Clone(f[:m.n]), new(big.Rat).Neg(f[m.n])))
	}
	return solved(m.n, out)
}

func (m flat) every(v int) flat {
	if first(m.less(unit(m.n, v))) < 0 {
		return m
	}
	return flat{n: m.n}
}

// lowest answers turned rows with whole numbers that have nothing in common: each one's first number being 1, it is multiplied by the least number that makes it whole.
func lowest(rows [][]*big.Rat) [][]api.Whole {
	var out [][]api.Whole
	for _, r := range rows {
		times := big.NewInt(1)
		for _, x := range r {
			common := new(big.Int).GCD(nil, nil, times, x.Denom())
			times.Mul(times, new(big.Int).Quo(x.Denom(), common))
		}
		var l []api.Whole
		for _, x := range r {
			l = append(l, wholeOf(new(big.Rat).Mul(x, new(big.Rat).SetInt(times)).Num()))
		}
		out = append(out, l)
	}
	return out
}

// tooBig says whether a number of its rows, its steps or its base is longer than MaxLimbs.
func (m flat) tooBig() bool {
	for _, l := range append(lowest(m.rows()), lowest(m.steps)...) {
		if slices.ContainsFunc(l, func(x api.Whole) bool { return len(x.Mag) > api.MaxLimbs }) {
			return true
		}
	}
	return slices.ContainsFunc(m.base, func(x *big.Rat) bool { return x.Num().CmpAbs(most) > 0 || x.Denom().CmpAbs(most) > 0 })
}

// like fails the test if a call did not answer the model, or ErrTooBig where the model is too big.
func like(t *testing.T, what string, s *span.Span, e api.Errno, want flat) {
	t.Helper()
	if want.tooBig() {
		if s != nil || e != api.ErrTooBig {
			t.Fatalf("%s: %v, want ErrTooBig", what, e)
		}
		return
	}
	if s == nil || e != api.OK {
		t.Fatalf("%s: no span, %v", what, e)
	}
	var base []api.Ratio
	for _, x := range want.base {
		base = append(base, ratioOf(x))
	}
	at, there := s.Base()
	sameRatio := func(x, y api.Ratio) bool { return equalWhole(x.Num, y.Num) && slices.Equal(x.Den, y.Den) }
	if !equal(s.Rows(), lowest(want.rows())) || !equal(s.Steps(), lowest(want.steps)) || there != want.some || !slices.EqualFunc(at, base, sameRatio) {
		t.Fatalf("%s: %v | %v, %v | %v, want %v | %v, %v | %v", what, s.Rows(), at, there, s.Steps(), lowest(want.rows()), base, want.some, lowest(want.steps))
	}
	dim := len(want.steps)
	if !want.some {
		dim = -1
	}
	if s.Dim() != dim || s.Vars() != want.n {
		t.Fatalf("%s: dimension %d of %d variables, want %d of %d", what, s.Dim(), s.Vars(), dim, want.n)
	}
}

// equalWhole says whether two numbers are the same, field for field.
func equalWhole(x, y api.Whole) bool { return x.Neg == y.Neg && slices.Equal(x.Mag, y.Mag) }

// equal says whether two matrices are the same, field for field.
func equal(a, b [][]api.Whole) bool {
	return slices.EqualFunc(a, b, func(x, y []api.Whole) bool { return slices.EqualFunc(x, y, equalWhole) })
}
