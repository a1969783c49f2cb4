package back_test

import (
	"fmt"
	"math"
	"math/big"
	"slices"
	"strings"
	"testing"

	"rafter/api"
	"rafter/back"
	"rafter/graph"
	"rafter/lang"
	"rafter/solver"
)

// The tests ask the exported calls alone. Programs are drawn as texts (sketch_test.go); what must be found of one is reckoned by going back along its graph's edges word for word as the chapter says, on math/big and fractions (model_test.go); what follows from it is held against runs of the machine and against the solver (follows_test.go).

// toBig reads a whole number.
func toBig(x api.Whole) *big.Int {
	out := new(big.Int)
	for _, limb := range slices.Backward(x.Mag) {
		out.Lsh(out, 32).Or(out, new(big.Int).SetUint64(uint64(limb)))
	}
	if x.Neg {
		out.Neg(out)
	}
	return out
}

// bigs reads whole numbers.
func bigs(l []api.Whole) []*big.Int {
	var out []*big.Int
	for _, x := range l {
		out = append(out, toBig(x))
	}
	return out
}

// wholeOf answers the one form of a whole number.
func wholeOf(x *big.Int) api.Whole {
	out := api.Whole{Neg: x.Sign() < 0}
	for rest := new(big.Int).Abs(x); rest.Sign() > 0; rest.Rsh(rest, 32) {
		out.Mag = append(out.Mag, uint32(new(big.Int).And(rest, big.NewInt(math.MaxUint32)).Uint64()))
	}
	return out
}

// wholes answers the one form of whole numbers.
func wholes(l []*big.Int) []api.Whole {
	var out []api.Whole
	for _, x := range l {
		out = append(out, wholeOf(x))
	}
	return out
}

// power answers 2^bits, and some more.
func power(bits uint, more int64) *big.Int {
	return new(big.Int).Add(new(big.Int).Lsh(big.NewInt(1), bits), big.NewInt(more))
}

// tooLong says whether a number has more than MaxLimbs limbs.
func tooLong(x *big.Int) bool { return x.CmpAbs(power(32*api.MaxLimbs, -1)) > 0 }

// spelt puts long numbers into a text: M is the greatest number of MaxLimbs limbs, N the one less 2, P one more, K 2^992 (the least one of MaxLimbs limbs).
func spelt(text string) string {
	most := uint(32 * api.MaxLimbs)
	return strings.NewReplacer("M", power(most, -1).String(), "N", power(most, -3).String(), "P", power(most, 0).String(), "K", power(most-32, 0).String()).Replace(text)
}

// numbers answers those that a text says, a word each.
func numbers(text string) []api.Whole {
	var out []api.Whole
	for _, w := range strings.Fields(spelt(text)) {
		x, ok := new(big.Int).SetString(w, 10)
		if !ok {
			panic("no number: " + w)
		}
		out = append(out, wholeOf(x))
	}
	return out
}

// oneForm says whether numbers are told in their one form.
func oneForm(l []api.Whole) bool {
	return !slices.ContainsFunc(l, func(x api.Whole) bool {
		want := wholeOf(toBig(x))
		return x.Neg != want.Neg || !slices.Equal(x.Mag, want.Mag)
	})
}

// say answers numbers as a text, for what is told in a test.
func say(l []api.Whole) string {
	var out []string
	for _, x := range l {
		out = append(out, toBig(x).String())
	}
	if !oneForm(l) {
		out = append(out, "in no one form")
	}
	return strings.Join(out, " ")
}

// sayRows answers rows as a text.
func sayRows(l [][]api.Whole) string {
	var out []string
	for _, row := range l {
		out = append(out, say(row))
	}
	return strings.Join(out, "; ")
}

// sayRowsOf answers rows of a text, `;` between them, as sayRows says them.
func sayRowsOf(text string) string {
	var out [][]api.Whole
	for _, row := range strings.Split(text, ";") {
		if row != "" {
			out = append(out, numbers(row))
		}
	}
	return sayRows(out)
}

// told answers all that is told of a need, at each of so many points and beside them, as one text; what is Met is asked of some states.
func told(n *back.Need, vars, points int) string {
	var out strings.Builder
	fmt.Fprintln(&out, n.Looks(), n.Always())
	for p := -1; p <= points; p++ {
		s, e := n.Span(p)
		fmt.Fprintln(&out, p, sayRows(n.Rows(p)), e)
		if s != nil {
			base, some := s.Base()
			fmt.Fprintln(&out, sayRows(s.Rows()), base, some, sayRows(s.Steps()))
		}
		draw := &stream{5}
		for range 5 {
			met, e := n.Met(p, draw.state(vars))
			fmt.Fprintln(&out, met, e)
		}
	}
	return out.String()
}

// graphed answers the graph of a text, in which long numbers are spelt by letters.
func graphed(t testing.TB, text string) *graph.Graph {
	t.Helper()
	p, e, at := lang.Parse(spelt(text))
	if e != api.OK {
		t.Fatalf("Parse(%.300q): %v at %v", text, e, at)
	}
	g, e := graph.Of(p)
	if e != api.OK {
		t.Fatalf("Of(%.300q): %v", text, e)
	}
	return g
}

// found answers what Find finds.
func found(t testing.TB, g *graph.Graph, point int, row []api.Whole) *back.Need {
	t.Helper()
	n, e := back.Find(g, point, row)
	if e != api.OK || n == nil {
		t.Fatalf("P16.3: Find(%d, %.300s): %v", point, say(row), e)
	}
	return n
}

// met answers whether a state is Met.
func met(t testing.TB, n *back.Need, point int, state []api.Whole) bool {
	t.Helper()
	is, e := n.Met(point, state)
	if e != api.OK {
		t.Fatalf("P16.4: Met(%d, %s): %v", point, say(state), e)
	}
	return is
}

// meets says whether a state meets a row.
func meets(state, row []api.Whole) bool { return left(bigs(row), bigs(state)).Sign() == 0 }

// left answers the sum of factor times state, less the right side.
func left(row, state []*big.Int) *big.Int {
	out := new(big.Int).Neg(row[len(state)])
	for i, x := range state {
		out.Add(out, new(big.Int).Mul(row[i], x))
	}
	return out
}

// stream answers numbers that look as if by chance, the same ones in each run.
type stream struct{ at uint64 }

func (s *stream) next() uint32 {
	s.at = s.at*6364136223846793005 + 1442695040888963407
	return uint32(s.at>>33 ^ s.at>>17)
}

// below answers a number from 0 to n - 1.
func (s *stream) below(n int) int { return int(s.next() % uint32(n)) }

// pick answers one of these.
func (s *stream) pick(of ...string) string { return of[s.below(len(of))] }

// choices draws so many choices. Now and then nearly all lead into a loop.
func (s *stream) choices(count int) []int {
	keen := s.below(3) == 0
	var out []int
	for range count {
		c := s.below(9) - 3
		if keen {
			c |= 1
		}
		out = append(out, c)
	}
	return out
}

// state draws a state of so many variables, seldom with a long number.
func (s *stream) state(n int) []api.Whole {
	var out []api.Whole
	for range n {
		x := big.NewInt(int64(s.below(9) - 4))
		switch s.below(36) {
		case 0, 1:
			x.Lsh(x, uint(s.below(1500)))
		case 2: // nearly as long as a number on the machine may be
			x.Lsh(x, uint(32*api.MaxWide-3))
		}
		out = append(out, wholeOf(x))
	}
	return out
}

// row draws a row over so many variables.
func (s *stream) row(n int) []api.Whole {
	var out []api.Whole
	for range n + 1 {
		x := big.NewInt(int64(s.below(7)-3) * int64(s.below(2)))
		if s.below(30) == 0 {
			x.Lsh(x, uint(s.below(1100)))
		}
		out = append(out, wholeOf(x))
	}
	return out
}

// nearly draws a row over so many variables to ask for at a point: one that is implied there, a sum of such ones, one that is nearly so, or any other one.
func (s *stream) nearly(r *solver.Result, point, n int) []api.Whole {
	kind, row := s.below(5), s.row(n)
	if r == nil || len(r.Rows(point)) == 0 {
		return row
	}
	one := r.Rows(point)[s.below(len(r.Rows(point)))]
	return [][]api.Whole{one, s.sum(n, r.Rows(point)), s.bumped(one), row, row}[kind]
}

// bumped answers a row with one number turned.
func (s *stream) bumped(row []api.Whole) []api.Whole {
	out := slices.Clone(row)
	i := s.below(len(out))
	x := toBig(out[i])
	out[i] = wholeOf(x.Add(x, big.NewInt(int64(1+s.below(3)))))
	return out
}

// sum answers the sum of rows over n variables, each times a factor that is drawn: they tell it.
func (s *stream) sum(n int, rows [][]api.Whole) []api.Whole {
	out := bigs(make([]api.Whole, n+1))
	for _, row := range rows {
		factor := big.NewInt(int64(s.below(7) - 3))
		for i, x := range bigs(row) {
			out[i].Add(out[i], x.Mul(x, factor))
		}
	}
	return wholes(out)
}

// states draws states: some that meet all needs of a point, as far as whole numbers do, some a little beside these, and others.
func (s *stream) states(n *back.Need, point, vars int) [][]api.Whole {
	out := [][]api.Whole{s.state(vars), s.state(vars)}
	met, _ := n.Span(point)
	base, some := met.Base()
	if !some {
		return out
	}
	sum := rats(bigs(make([]api.Whole, vars)))
	for i, x := range base {
		sum[i].SetFrac(toBig(x.Num), toBig(api.Whole{Mag: x.Den}))
	}
	for _, step := range met.Steps() {
		sum = plus(sum, big.NewRat(int64(s.below(7)-3), 1), rats(bigs(step)))
	}
	near := make([]*big.Int, vars)
	for i, x := range sum { // rounded down, where it is no whole number
		near[i] = new(big.Int).Div(x.Num(), x.Denom())
	}
	out = append(out, wholes(near))
	if vars > 0 {
		out = append(out, s.bumped(wholes(near)))
	}
	return out
}
