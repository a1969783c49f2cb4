package refute_test

import (
	"fmt"
	"math"
	"math/big"
	"slices"
	"strings"
	"testing"

	"rafter/api"
	"rafter/graph"
	"rafter/lang"
	"rafter/solver"
)

// The tests ask the exported calls alone. Programs are drawn as texts (sketch_test.go), rows over what was found of them (rows_test.go); what must be told of a row is found with numbers of the library (model_test.go); what follows from it is held against runs (follows_test.go).

// toBig reads a whole number.
func toBig(x api.Whole) *big.Int {
	out := new(big.Int)
	for _, limb := range slices.Backward(x.Mag) {
		out.Lsh(out, 32).Or(out, new(big.Int).SetUint64(uint64(limb)))
	}
	if x.Neg {
		out.Neg(out)
	}
	return out
}

// wholeOf answers the one form of a whole number.
func wholeOf(x *big.Int) api.Whole {
	out := api.Whole{Neg: x.Sign() < 0}
	for rest := new(big.Int).Abs(x); rest.Sign() > 0; rest.Rsh(rest, 32) {
		out.Mag = append(out.Mag, uint32(new(big.Int).And(rest, big.NewInt(math.MaxUint32)).Uint64()))
	}
	return out
}

// power answers 2^bits, and some more.
func power(bits uint, more int64) *big.Int {
	return new(big.Int).Add(new(big.Int).Lsh(big.NewInt(1), bits), big.NewInt(more))
}

// spelt puts long numbers into a text: M is the greatest number of MaxLimbs limbs, N the one less 2, K 2^992 (the least one of MaxLimbs limbs), Q the square of M.
func spelt(text string) string {
	most := uint(32 * api.MaxLimbs)
	m := power(most, -1)
	return strings.NewReplacer("M", m.String(), "N", power(most, -3).String(), "K", power(most-32, 0).String(), "Q", new(big.Int).Mul(m, m).String()).Replace(text)
}

// numbers reads whole numbers with blanks between, long ones spelt by letters.
func numbers(text string) []api.Whole {
	var out []api.Whole
	for _, word := range strings.Fields(spelt(text)) {
		x, ok := new(big.Int).SetString(word, 10)
		if !ok {
			panic(word)
		}
		out = append(out, wholeOf(x))
	}
	return out
}

// oneForm says whether numbers are told in their one form.
func oneForm(l []api.Whole) bool {
	return !slices.ContainsFunc(l, func(x api.Whole) bool {
		want := wholeOf(toBig(x))
		return x.Neg != want.Neg || !slices.Equal(x.Mag, want.Mag)
	})
}

// say answers numbers as a text, for what is told in a test.
func say(l []api.Whole) string {
	var out []string
	for _, x := range l {
		out = append(out, toBig(x).String())
	}
	if !oneForm(l) {
		out = append(out, "in no one form")
	}
	return strings.Join(out, " ")
}

// ints answers numbers as a text: none of nil and of an empty list.
func ints(l []int) string { return strings.Trim(fmt.Sprint(l), "[]") }

// sayWitness answers what Find tells as a text.
func sayWitness(w api.Witness) string {
	kind := map[int]string{api.FindHolds: "holds", api.FindShown: "shown", api.FindLost: "lost"}[w.Kind]
	return fmt.Sprintf("%s %d | %s | %s", kind, w.Fuel, ints(w.Choices), say(w.State))
}

// graphed answers the graph of a text that has one.
func graphed(t testing.TB, text string) *graph.Graph {
	t.Helper()
	p, e, at := lang.Parse(text)
	if e != api.OK {
		t.Fatalf("Parse(%.300q): %v at %v", text, e, at)
	}
	g, e := graph.Of(p)
	if e != api.OK {
		t.Fatalf("Of(%.300q): %v", text, e)
	}
	return g
}

// solved answers what Solve finds of a text, in which long numbers are spelt by letters.
func solved(t testing.TB, text string) *solver.Result {
	t.Helper()
	r, e := solver.Solve(graphed(t, spelt(text)))
	if e != api.OK || r == nil {
		t.Fatalf("Solve(%.300q): %v", text, e)
	}
	return r
}

// held draws programs of which Solve finds something, and hands each result on.
func held(t *testing.T, s *stream, count int, do func(text string, r *solver.Result)) {
	t.Helper()
	drawn(t, s, count, func(text string, g *graph.Graph) {
		if r, e := solver.Solve(g); e == api.OK {
			do(text, r)
		}
	})
}

// stream answers numbers that look as if by chance, the same ones in each run.
type stream struct{ at uint64 }

func (s *stream) next() uint32 {
	s.at = s.at*6364136223846793005 + 1442695040888963407
	return uint32(s.at>>33 ^ s.at>>17)
}

// below answers a number from 0 to n - 1.
func (s *stream) below(n int) int { return int(s.next() % uint32(n)) }

// pick answers one of these.
func (s *stream) pick(of ...string) string { return of[s.below(len(of))] }
