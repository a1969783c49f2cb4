package relate_test

import (
	"fmt"
	"math"
	"math/big"
	"slices"
	"strings"
	"testing"

	"rafter/api"
	"rafter/graph"
	"rafter/lang"
	"rafter/relate"
)

// The tests ask the exported calls alone. Programs are drawn as texts (sketch_test.go); what must be found of one is reckoned by going along its graph's edges word for word as the chapter says, on math/big, the hulls on fractions (model_test.go), and again by the solver, of a program that first of all copies its variables (twin_test.go); what follows from it is held against runs of the machine and against the solver (follows_test.go).

// toBig reads a whole number.
func toBig(x api.Whole) *big.Int {
	out := new(big.Int)
	for _, limb := range slices.Backward(x.Mag) {
		out.Lsh(out, 32).Or(out, new(big.Int).SetUint64(uint64(limb)))
	}
	if x.Neg {
		out.Neg(out)
	}
	return out
}

// wholeOf answers the one form of a whole number.
func wholeOf(x *big.Int) api.Whole {
	out := api.Whole{Neg: x.Sign() < 0}
	for rest := new(big.Int).Abs(x); rest.Sign() > 0; rest.Rsh(rest, 32) {
		out.Mag = append(out.Mag, uint32(new(big.Int).And(rest, big.NewInt(math.MaxUint32)).Uint64()))
	}
	return out
}

// added answers x + by y.
func added(x api.Whole, by int, y api.Whole) api.Whole {
	more := new(big.Int).Mul(big.NewInt(int64(by)), toBig(y))
	return wholeOf(more.Add(more, toBig(x)))
}

// power answers 2^bits, and some more.
func power(bits uint, more int64) *big.Int {
	return new(big.Int).Add(new(big.Int).Lsh(big.NewInt(1), bits), big.NewInt(more))
}

// most is the greatest number of MaxLimbs limbs.
func most() *big.Int { return power(32*api.MaxLimbs, -1) }

// tooLong says whether a number has more than MaxLimbs limbs.
func tooLong(x *big.Int) bool { return x.CmpAbs(most()) > 0 }

// spelt puts long numbers into a text: M is the greatest number of MaxLimbs limbs, N the one less 2, P one more, K 2^992 (the least one of MaxLimbs limbs), Q 2^511 (the greatest power of 2 whose square has MaxLimbs limbs), H 2^1023 (the greatest power of 2 of MaxLimbs limbs).
func spelt(text string) string {
	return strings.NewReplacer("M", most().String(), "N", power(32*api.MaxLimbs, -3).String(), "P", power(32*api.MaxLimbs, 0).String(), "K", power(32*api.MaxLimbs-32, 0).String(), "Q", power(16*api.MaxLimbs-1, 0).String(), "H", power(32*api.MaxLimbs-1, 0).String()).Replace(text)
}

// numbers answers those that a text says, a word each.
func numbers(text string) []api.Whole {
	var out []api.Whole
	for _, w := range strings.Fields(spelt(text)) {
		x, ok := new(big.Int).SetString(w, 10)
		if !ok {
			panic("no number: " + w)
		}
		out = append(out, wholeOf(x))
	}
	return out
}

// oneForm says whether numbers are told in their one form.
func oneForm(l []api.Whole) bool {
	return !slices.ContainsFunc(l, func(x api.Whole) bool {
		want := wholeOf(toBig(x))
		return x.Neg != want.Neg || !slices.Equal(x.Mag, want.Mag)
	})
}

// say answers numbers as a text, for what is told in a test.
func say(l []api.Whole) string {
	var out []string
	for _, x := range l {
		out = append(out, toBig(x).String())
	}
	if !oneForm(l) {
		out = append(out, "in no one form")
	}
	return strings.Join(out, " ")
}

// sayRows answers rows as a text.
func sayRows(l [][]api.Whole) string {
	var out []string
	for _, row := range l {
		out = append(out, say(row))
	}
	return strings.Join(out, "; ")
}

// told answers all that a relation tells of so many points, and of those beside them, as one text.
func told(r *relate.Relation, points int) string {
	var out strings.Builder
	fmt.Fprintln(&out, r.Names())
	for p := -1; p <= points; p++ {
		text, e := r.Print(p)
		fmt.Fprintln(&out, p, sayRows(r.Samples(p)), "|", sayRows(r.Rows(p)), "|", r.Dim(p), e, text)
		ask := &stream{5}
		for range 5 {
			is, e := r.Implied(p, ask.row(len(r.Names())))
			fmt.Fprintln(&out, is, e)
		}
		for _, equation := range []string{"a = a°", "0 = 0", "a° + b = 1", "z = 1", "@"} {
			is, e, at := r.Text(p, equation)
			fmt.Fprintln(&out, is, e, at)
		}
	}
	return out.String()
}

// graphed answers the graph of a text, in which long numbers are spelt by letters.
func graphed(t testing.TB, text string) *graph.Graph {
	t.Helper()
	p, e, at := lang.Parse(spelt(text))
	if e != api.OK {
		t.Fatalf("Parse(%.300q): %v at %v", text, e, at)
	}
	g, e := graph.Of(p)
	if e != api.OK {
		t.Fatalf("Of(%.300q): %v", text, e)
	}
	return g
}

// related answers what Solve finds of a graph.
func related(t testing.TB, g *graph.Graph) *relate.Relation {
	t.Helper()
	r, e := relate.Solve(g)
	if e != api.OK || r == nil {
		t.Fatalf("P17.2: %v", e)
	}
	return r
}

// relatedOf answers what Solve finds of a text.
func relatedOf(t testing.TB, text string) *relate.Relation {
	t.Helper()
	return related(t, graphed(t, text))
}

// implied answers whether a row is implied.
func implied(t testing.TB, r *relate.Relation, point int, row []api.Whole) bool {
	t.Helper()
	is, e := r.Implied(point, row)
	if e != api.OK {
		t.Fatalf("P17.3: Implied(%d, %s): %v", point, say(row), e)
	}
	return is
}

// meets says whether numbers meet a row.
func meets(numbers, row []api.Whole) bool {
	sum := new(big.Int)
	for i, x := range numbers {
		sum.Add(sum, new(big.Int).Mul(toBig(row[i]), toBig(x)))
	}
	return sum.Cmp(toBig(row[len(numbers)])) == 0
}

// stream answers numbers that look as if by chance, the same ones in each run.
type stream struct{ at uint64 }

func (s *stream) next() uint32 {
	s.at = s.at*6364136223846793005 + 1442695040888963407
	return uint32(s.at>>33 ^ s.at>>17)
}

// below answers a number from 0 to n - 1.
func (s *stream) below(n int) int { return int(s.next() % uint32(n)) }

// pick answers one of these.
func (s *stream) pick(of ...string) string { return of[s.below(len(of))] }

// choices draws so many choices. Now and then nearly all lead into a loop.
func (s *stream) choices(count int) []int {
	keen := s.below(3) == 0
	var out []int
	for range count {
		c := s.below(9) - 3
		if keen {
			c |= 1
		}
		if s.below(12) == 0 {
			c = int(uint64(s.next())<<32 | uint64(s.next()))
		}
		out = append(out, c)
	}
	return out
}

// row draws a row over so many variables.
func (s *stream) row(n int) []api.Whole {
	var out []api.Whole
	for range n + 1 {
		x := big.NewInt(int64(max(0, s.below(8)-4)))
		switch s.below(10) {
		case 0, 1, 2:
			x.Neg(x)
		case 3:
			x.Lsh(x, uint(s.below(2000)))
		}
		out = append(out, wholeOf(x))
	}
	return out
}

// sayRowsOf answers rows of a text, `;` between them, as sayRows says them.
func sayRowsOf(text string) string {
	var out [][]api.Whole
	for _, row := range strings.Split(text, ";") {
		if row != "" {
			out = append(out, numbers(row))
		}
	}
	return sayRows(out)
}

// held draws programs of which Solve finds something, and hands each relation on.
func held(t *testing.T, s *stream, count int, do func(text string, g *graph.Graph, r *relate.Relation)) {
	t.Helper()
	drawn(t, s, count, func(text string, g *graph.Graph) {
		r, e := relate.Solve(g)
		if e == api.OK {
			do(text, g, r)
		} else if e != api.ErrTooBig || r != nil {
			t.Fatalf("P17.2: %q: %v", text, e)
		}
	})
}
