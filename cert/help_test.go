package cert_test

import (
	"math"
	"math/big"
	"slices"
	"strings"
	"testing"

	"rafter/api"
	"rafter/cert"
	"rafter/graph"
	"rafter/lang"
	"rafter/solver"
)

// The tests ask the exported calls alone. Programs are drawn as texts (sketch_test.go), certificates of them by other ways than the solver's, and then spoilt (drawn_test.go); what Check must answer is found with fractions of the library, word for word as the chapter says it (model_test.go), what Parse must by patterns over lines (text_test.go); what follows from it is held against runs (follows_test.go).

// toBig reads a whole number.
func toBig(x api.Whole) *big.Int {
	out := new(big.Int)
	for _, limb := range slices.Backward(x.Mag) {
		out.Lsh(out, 32).Or(out, new(big.Int).SetUint64(uint64(limb)))
	}
	if x.Neg {
		out.Neg(out)
	}
	return out
}

// wholeOf answers the one form of a whole number.
func wholeOf(x *big.Int) api.Whole {
	out := api.Whole{Neg: x.Sign() < 0}
	for rest := new(big.Int).Abs(x); rest.Sign() > 0; rest.Rsh(rest, 32) {
		out.Mag = append(out.Mag, uint32(new(big.Int).And(rest, big.NewInt(math.MaxUint32)).Uint64()))
	}
	return out
}

// power answers 2^bits, and some more.
func power(bits uint, more int64) *big.Int {
	return new(big.Int).Add(new(big.Int).Lsh(big.NewInt(1), bits), big.NewInt(more))
}

// tooLong says whether a number has more than MaxLimbs limbs.
func tooLong(x *big.Int) bool { return x.CmpAbs(power(32*api.MaxLimbs, -1)) > 0 }

// spelt puts long numbers into a text: M is the greatest number of MaxLimbs limbs, N the one less 2, P one more, K 2^992 (the least one of MaxLimbs limbs).
func spelt(text string) string {
	most := uint(32 * api.MaxLimbs)
	return strings.NewReplacer("M", power(most, -1).String(), "N", power(most, -3).String(), "P", power(most, 0).String(), "K", power(most-32, 0).String()).Replace(text)
}

// oneForm says whether numbers are told in their one form.
func oneForm(l []api.Whole) bool {
	return !slices.ContainsFunc(l, func(x api.Whole) bool {
		want := wholeOf(toBig(x))
		return x.Neg != want.Neg || !slices.Equal(x.Mag, want.Mag)
	})
}

// say answers numbers as a text, for what is told in a test.
func say(l []api.Whole) string {
	var out []string
	for _, x := range l {
		out = append(out, toBig(x).String())
	}
	if !oneForm(l) {
		out = append(out, "in no one form")
	}
	return strings.Join(out, " ")
}

// sayRows answers rows as a text.
func sayRows(l [][]api.Whole) string {
	var out []string
	for _, row := range l {
		out = append(out, say(row))
	}
	return strings.Join(out, "; ")
}

// graphed answers the graph of a text, in which long numbers are spelt by letters.
func graphed(t testing.TB, text string) *graph.Graph {
	t.Helper()
	p, e, at := lang.Parse(spelt(text))
	if e != api.OK {
		t.Fatalf("Parse(%.300q): %v at %v", text, e, at)
	}
	g, e := graph.Of(p)
	if e != api.OK {
		t.Fatalf("Of(%.300q): %v", text, e)
	}
	return g
}

// solved answers what Solve finds of a text.
func solved(t testing.TB, text string) *solver.Result {
	t.Helper()
	r, e := solver.Solve(graphed(t, text))
	if e != api.OK || r == nil {
		t.Fatalf("Solve(%.300q): %v", text, e)
	}
	return r
}

// parsed answers the certificate of a text, in which long numbers are spelt by letters.
func parsed(t testing.TB, text string) []api.CertPoint {
	t.Helper()
	c, e, line := cert.Parse(spelt(text))
	if e != api.OK || line != 0 {
		t.Fatalf("P15.4: Parse(%.300q): %v at %d", text, e, line)
	}
	return c
}

// checks fails the test, if Check does not answer so.
func checks(t testing.TB, what string, g *graph.Graph, c []api.CertPoint, code api.Errno, at int) {
	t.Helper()
	if got, where := cert.Check(g, c); got != code || where != at {
		t.Errorf("P15.2: %.900s: %v at %d; want %v at %d", what, got, where, code, at)
	}
}

// taken says whether Check takes a certificate.
func taken(g *graph.Graph, c []api.CertPoint) bool {
	code, at := cert.Check(g, c)
	return code == api.OK && at == 0
}

// held draws programs of which Solve finds something, and hands each result on.
func held(t *testing.T, s *stream, count int, do func(text string, r *solver.Result)) {
	t.Helper()
	drawn(t, s, count, func(text string, g *graph.Graph) {
		if r, e := solver.Solve(g); e == api.OK {
			do(text, r)
		}
	})
}

// copied answers a certificate in memory of its own.
func copied(c []api.CertPoint) []api.CertPoint {
	out := slices.Clone(c)
	for p := range out {
		out[p].Rows = slices.Clone(out[p].Rows)
		for i, row := range out[p].Rows {
			out[p].Rows[i] = numbersOf(row)
		}
		out[p].Samples = slices.Clone(out[p].Samples)
		for i, x := range out[p].Samples {
			out[p].Samples[i].State = numbersOf(x.State)
		}
	}
	return out
}

// numbersOf answers numbers in memory of their own.
func numbersOf(l []api.Whole) []api.Whole {
	out := slices.Clone(l)
	for i := range out {
		out[i].Mag = slices.Clone(out[i].Mag)
	}
	return out
}

// stream answers numbers that look as if by chance, the same ones in each run.
type stream struct{ at uint64 }

func (s *stream) next() uint32 {
	s.at = s.at*6364136223846793005 + 1442695040888963407
	return uint32(s.at>>33 ^ s.at>>17)
}

// below answers a number from 0 to n - 1.
func (s *stream) below(n int) int { return int(s.next() % uint32(n)) }

// pick answers one of these.
func (s *stream) pick(of ...string) string { return of[s.below(len(of))] }
