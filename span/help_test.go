package span_test

import (
	"fmt"
	"math/big"
	"slices"
	"strings"
	"testing"

	"rafter/api"
	"rafter/span"
)

// The tests ask the exported calls alone, and hold them against a model (model_test.go) on fractions of math/big.

var (
	// most is the greatest number of MaxLimbs limbs, past the least one that is too big.
	past = new(big.Int).Lsh(big.NewInt(1), 32*api.MaxLimbs)
	most = new(big.Int).Sub(past, big.NewInt(1))
	// words are numbers that tests write as letters: most, past, most less 1, the half of that, 2^512.
	words = strings.NewReplacer("M", most.String(), "P", past.String(), "N", new(big.Int).Sub(most, big.NewInt(1)).String(), "H", new(big.Int).Rsh(most, 1).String(), "R", new(big.Int).Lsh(big.NewInt(1), 512).String())
	names = []string{"a", "b", "c", "d", "e", "f", "g", "h", "i", "j", "k", "l", "m", "n", "o", "p"}
)

// toNat reads limbs: the sum of a[i] 2^(32 i).
func toNat(a []uint32) *big.Int {
	out := new(big.Int)
	for _, limb := range slices.Backward(a) {
		out.Lsh(out, 32).Or(out, new(big.Int).SetUint64(uint64(limb)))
	}
	return out
}

// toBig reads a whole number.
func toBig(x api.Whole) *big.Int {
	out := toNat(x.Mag)
	if x.Neg {
		out.Neg(out)
	}
	return out
}

// toRat reads a fraction: one over 0 counts as 0.
func toRat(r api.Ratio) *big.Rat {
	under := toNat(r.Den)
	if under.Sign() == 0 {
		return new(big.Rat)
	}
	return new(big.Rat).SetFrac(toBig(r.Num), under)
}

// natOf answers the one form of a natural.
func natOf(x *big.Int) []uint32 {
	var out []uint32
	for rest := new(big.Int).Set(x); rest.Sign() > 0; rest.Rsh(rest, 32) {
		out = append(out, uint32(new(big.Int).And(rest, big.NewInt(1<<32-1)).Uint64()))
	}
	return out
}

// wholeOf answers the one form of a whole number.
func wholeOf(x *big.Int) api.Whole {
	return api.Whole{Neg: x.Sign() < 0, Mag: natOf(new(big.Int).Abs(x))}
}

// ratioOf answers the one form of a fraction.
func ratioOf(x *big.Rat) api.Ratio {
	return api.Ratio{Num: wholeOf(x.Num()), Den: natOf(x.Denom())}
}

// rats reads numbers, from a text with blanks between.
func rats(s string) []*big.Rat {
	var out []*big.Rat
	for _, w := range strings.Fields(words.Replace(s)) {
		x, ok := new(big.Rat).SetString(w)
		if !ok {
			panic("no number: " + w)
		}
		out = append(out, x)
	}
	return out
}

// row answers whole numbers in their one form, from a text with blanks between.
func row(s string) []api.Whole {
	var out []api.Whole
	for _, x := range rats(s) {
		out = append(out, wholeOf(x.Num()))
	}
	return out
}

// point answers fractions in their one form, from a text with blanks between.
func point(s string) []api.Ratio {
	var out []api.Ratio
	for _, x := range rats(s) {
		out = append(out, ratioOf(x))
	}
	return out
}

// several answers what read makes of the parts of a text, a ; between two; of the empty text none.
func several[T any](s string, read func(string) []T) [][]T {
	var out [][]T
	for _, l := range strings.Split(s, ";") {
		if strings.TrimSpace(l) != "" {
			out = append(out, read(l))
		}
	}
	return out
}

// byRows answers the span of the rows of a text.
func byRows(t *testing.T, n int, s string) *span.Span {
	t.Helper()
	return ok(t)(span.Rows(n, several(s, row)))
}

// byPoints answers the span through the points of a text.
func byPoints(t *testing.T, n int, s string) *span.Span {
	t.Helper()
	return ok(t)(span.Points(n, several(s, point)))
}

// ok answers a call's span, or ends the test if there is none.
func ok(t *testing.T) func(s *span.Span, e api.Errno) *span.Span {
	return func(s *span.Span, e api.Errno) *span.Span {
		t.Helper()
		if s == nil || e != api.OK {
			t.Fatal("no span: ", e)
		}
		return s
	}
}

// yes answers what a call says, or ends the test if it refuses.
func yes(t *testing.T) func(is bool, e api.Errno) bool {
	return func(is bool, e api.Errno) bool {
		t.Helper()
		if e != api.OK {
			t.Fatal("refused: ", e)
		}
		return is
	}
}

// say answers numbers in decimal digits.
func say(l []api.Whole) string {
	var out []string
	for _, x := range l {
		out = append(out, toBig(x).String())
	}
	return strings.Join(out, " ")
}

// sayAll answers rows in decimal digits, a ; between two.
func sayAll(l [][]api.Whole) string {
	var out []string
	for _, x := range l {
		out = append(out, say(x))
	}
	return strings.Join(out, "; ")
}

// sayPoint answers fractions in decimal digits.
func sayPoint(l []api.Ratio) string {
	var out []string
	for _, x := range l {
		out = append(out, toRat(x).RatString())
	}
	return strings.Join(out, " ")
}

// fields answers all that a span tells, field for field; an empty list is like none.
func fields(s *span.Span) string {
	var out strings.Builder
	base, there := s.Base()
	fmt.Fprint(&out, s.Vars(), " ", s.Dim(), " ", there, len(base))
	for _, r := range base {
		fmt.Fprint(&out, r.Num.Neg, r.Num.Mag, r.Den)
	}
	for _, l := range [][][]api.Whole{s.Rows(), s.Steps()} {
		fmt.Fprint(&out, " ", len(l))
		for _, x := range l {
			fmt.Fprint(&out, " ", len(x), x)
		}
	}
	text, e := s.Print(names[:s.Vars()])
	return out.String() + text + fmt.Sprint(e)
}

// told fails the test if a span does not tell these rows, base (`none`: there is none) and steps.
func told(t *testing.T, what string, s *span.Span, rows, base, steps string) {
	t.Helper()
	at := "none"
	if l, there := s.Base(); there {
		at = sayPoint(l)
	}
	if sayAll(s.Rows()) != words.Replace(rows) || at != words.Replace(base) || sayAll(s.Steps()) != words.Replace(steps) {
		t.Errorf("%s: %s | %s | %s, want %s | %s | %s", what, sayAll(s.Rows()), at, sayAll(s.Steps()), rows, base, steps)
	}
}

// stream answers numbers that look as if by chance, the same ones in each run.
type stream struct{ at uint64 }

func (s *stream) next() uint32 {
	s.at = s.at*6364136223846793005 + 1442695040888963407
	return uint32(s.at>>33 ^ s.at>>17)
}

// below answers a number from 0 to n - 1.
func (s *stream) below(n int) int { return int(s.next() % uint32(n)) }

// whole answers a number in any form: mostly a small one or 0, else one of up to n limbs, some of these at an edge or 0 on top.
func (s *stream) whole(n int) api.Whole {
	x := api.Whole{Neg: s.below(2) == 0, Mag: []uint32{uint32(s.below(4))}}
	if n > 0 && s.below(4) == 0 {
		edges := []uint32{0, 1, 1 << 31, 1<<32 - 1}
		x.Mag = make([]uint32, s.below(n+1))
		for i := range x.Mag {
			x.Mag[i] = s.next()
			if s.below(3) == 0 {
				x.Mag[i] = edges[s.below(len(edges))]
			}
		}
	}
	return x
}

// row answers count numbers in any form.
func (s *stream) row(count, n int) []api.Whole {
	out := make([]api.Whole, count)
	for i := range out {
		out[i] = s.whole(n)
	}
	return out
}

// point answers count fractions in any form, some not in lowest terms, some over 0.
func (s *stream) point(count, n int) []api.Ratio {
	out := make([]api.Ratio, count)
	for i := range out {
		out[i] = api.Ratio{Num: s.whole(n), Den: s.whole(n).Mag}
		if s.below(2) == 0 {
			out[i].Den = []uint32{1}
		}
	}
	return out
}

// points answers points; every other one of some lies on the line through two ahead of it.
func (s *stream) points(count, n, limbs int) [][]api.Ratio {
	var out [][]api.Ratio
	poor := s.below(3) > 0
	for range count {
		p := s.point(n, limbs)
		if poor && len(out) > 0 && s.below(2) == 0 {
			p = between(out[s.below(len(out))], out[s.below(len(out))], big.NewRat(int64(s.below(5)-2), 3))
		}
		out = append(out, p)
	}
	return out
}

// between answers the point p + by (q - p).
func between(p, q []api.Ratio, by *big.Rat) []api.Ratio {
	var out []api.Ratio
	for i := range p {
		way := new(big.Rat).Sub(toRat(q[i]), toRat(p[i]))
		out = append(out, ratioOf(way.Mul(way, by).Add(way, toRat(p[i]))))
	}
	return out
}

// rows answers rows; every other one of some is a sum of multiples of two ahead of it, some of these with another right side.
func (s *stream) rows(count, n, limbs int) [][]api.Whole {
	var out [][]api.Whole
	poor := s.below(3) > 0
	for range count {
		r := s.row(n+1, limbs)
		if poor && len(out) > 0 && s.below(2) == 0 {
			r = mixed(out[s.below(len(out))], int64(s.below(5)-2), out[s.below(len(out))], int64(s.below(5)-2))
			if s.below(6) == 0 {
				r[n] = s.whole(limbs)
			}
		}
		out = append(out, r)
	}
	return out
}

// mixed answers x times a, and y times b.
func mixed(a []api.Whole, x int64, b []api.Whole, y int64) []api.Whole {
	var out []api.Whole
	for i := range a {
		one := new(big.Int).Mul(toBig(a[i]), big.NewInt(x))
		out = append(out, wholeOf(one.Add(one, new(big.Int).Mul(toBig(b[i]), big.NewInt(y)))))
	}
	return out
}

// spans answers spans over n variables, of all dimensions, some with long numbers, with their models.
func (s *stream) spans(t *testing.T, n, count int) ([]*span.Span, []flat) {
	t.Helper()
	var out []*span.Span
	var models []flat
	for i := 0; len(out) < count; i++ {
		points, rows := s.points(i%(n+3), n, i%3), s.rows(i%(n+2), n, i%3)
		m, one := hull(n, toRats(points, toRat)), func() (*span.Span, api.Errno) { return span.Points(n, points) }
		if i%2 == 1 {
			m, one = solved(n, toRats(rows, wholeRat)), func() (*span.Span, api.Errno) { return span.Rows(n, rows) }
		}
		if !m.tooBig() {
			out, models = append(out, ok(t)(one())), append(models, m)
		}
	}
	return out, models
}
