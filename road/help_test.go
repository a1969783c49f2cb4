package road_test

import (
	"fmt"
	"math"
	"math/big"
	"slices"
	"strings"
	"testing"

	"rafter/api"
	"rafter/graph"
	"rafter/lang"
	"rafter/road"
	"rafter/solver"
)

// The tests ask the exported calls alone. Programs are drawn as texts (sketch_test.go); what must be told of their samples is laid on, sample by sample, from the beginning on, never followed back (model_test.go); what follows from it is held against runs (follows_test.go).

// toBig reads a whole number.
func toBig(x api.Whole) *big.Int {
	out := new(big.Int)
	for _, limb := range slices.Backward(x.Mag) {
		out.Lsh(out, 32).Or(out, new(big.Int).SetUint64(uint64(limb)))
	}
	if x.Neg {
		out.Neg(out)
	}
	return out
}

// wholeOf answers the one form of a whole number.
func wholeOf(x *big.Int) api.Whole {
	out := api.Whole{Neg: x.Sign() < 0}
	for rest := new(big.Int).Abs(x); rest.Sign() > 0; rest.Rsh(rest, 32) {
		out.Mag = append(out.Mag, uint32(new(big.Int).And(rest, big.NewInt(math.MaxUint32)).Uint64()))
	}
	return out
}

// power answers 2^bits, and some more.
func power(bits uint, more int64) *big.Int {
	return new(big.Int).Add(new(big.Int).Lsh(big.NewInt(1), bits), big.NewInt(more))
}

// spelt puts long numbers into a text: M is the greatest number of MaxLimbs limbs, N the one less 2, K 2^992 (the least one of MaxLimbs limbs).
func spelt(text string) string {
	most := uint(32 * api.MaxLimbs)
	return strings.NewReplacer("M", power(most, -1).String(), "N", power(most, -3).String(), "K", power(most-32, 0).String()).Replace(text)
}

// oneForm says whether numbers are told in their one form.
func oneForm(l []api.Whole) bool {
	return !slices.ContainsFunc(l, func(x api.Whole) bool {
		want := wholeOf(toBig(x))
		return x.Neg != want.Neg || !slices.Equal(x.Mag, want.Mag)
	})
}

// say answers numbers as a text, for what is told in a test.
func say(l []api.Whole) string {
	var out []string
	for _, x := range l {
		out = append(out, toBig(x).String())
	}
	if !oneForm(l) {
		out = append(out, "in no one form")
	}
	return strings.Join(out, " ")
}

// ints answers numbers as a text: none of nil and of an empty list.
func ints(l []int) string { return strings.Trim(fmt.Sprint(l), "[]") }

// sayRoad answers a road as a text.
func sayRoad(w api.Road) string {
	return fmt.Sprintf("%s | %s | %s | %v", ints(w.Points), ints(w.Indexes), ints(w.Edges), w.Sure)
}

// sayStand answers where a run stands as a text.
func sayStand(s api.Stand) string {
	return fmt.Sprintf("%d | %s | %d %d | %d %d", s.Point, say(s.State), s.Steps, s.Used, s.Why, s.Code)
}

// told answers what the three calls tell of a sample as one text; of an error all results.
func told(r *solver.Result, point, index int) string {
	w, a := road.To(r, point, index)
	choices, fuel, sure, b := road.Choices(r, point, index)
	s, c := road.Walk(r, point, index)
	return fmt.Sprintf("%s %d\n%s %d %v %d\n%s %d", sayRoad(w), a, ints(choices), fuel, sure, b, sayStand(s), c)
}

// toldAll answers what is told of all samples of all points, and of some that there are not.
func toldAll(r *solver.Result) string {
	var out strings.Builder
	for p := -1; p <= r.Graph().Points(); p++ {
		for i := -1; i <= len(r.Samples(p)); i++ {
			fmt.Fprintln(&out, p, i, told(r, p, i))
		}
	}
	return out.String()
}

// toldSamples answers all samples as one text.
func toldSamples(r *solver.Result) string {
	var out strings.Builder
	for p := range r.Graph().Points() {
		for _, x := range r.Samples(p) {
			fmt.Fprintln(&out, p, say(x.State), x.Point, x.Index, x.Edge, x.Value)
		}
	}
	return out.String()
}

// graphed answers the graph of a text that has one.
func graphed(t testing.TB, text string) *graph.Graph {
	t.Helper()
	p, e, at := lang.Parse(text)
	if e != api.OK {
		t.Fatalf("Parse(%.300q): %v at %v", text, e, at)
	}
	g, e := graph.Of(p)
	if e != api.OK {
		t.Fatalf("Of(%.300q): %v", text, e)
	}
	return g
}

// solved answers what Solve finds of a text, in which long numbers are spelt by letters.
func solved(t testing.TB, text string) *solver.Result {
	t.Helper()
	r, e := solver.Solve(graphed(t, spelt(text)))
	if e != api.OK || r == nil {
		t.Fatalf("Solve(%.300q): %v", text, e)
	}
	return r
}

// held draws programs of which Solve finds something, and hands each result on.
func held(t *testing.T, s *stream, count int, do func(text string, r *solver.Result)) {
	t.Helper()
	drawn(t, s, count, func(text string, g *graph.Graph) {
		if r, e := solver.Solve(g); e == api.OK {
			do(text, r)
		}
	})
}

// stream answers numbers that look as if by chance, the same ones in each run.
type stream struct{ at uint64 }

func (s *stream) next() uint32 {
	s.at = s.at*6364136223846793005 + 1442695040888963407
	return uint32(s.at>>33 ^ s.at>>17)
}

// below answers a number from 0 to n - 1.
func (s *stream) below(n int) int { return int(s.next() % uint32(n)) }

// pick answers one of these.
func (s *stream) pick(of ...string) string { return of[s.below(len(of))] }
