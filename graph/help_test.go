package graph_test

import (
	"math/big"
	"reflect"
	"slices"
	"strings"
	"testing"

	"rafter/api"
	"rafter/graph"
	"rafter/lang"
)

// The tests ask the exported calls alone. Programs are drawn first and written then (sketch_test.go), so that the graph they must have is known without reading them (model_test.go); what their expressions come to is what guard and lang tell of their texts.

// placeOf answers the place so many bytes into s, counted anew from its beginning.
func placeOf(s string, bytes int) api.Place {
	ahead := s[:bytes]
	line := ahead[strings.LastIndex(ahead, "\n")+1:]
	return api.Place{Byte: bytes, Glyph: len([]rune(ahead)), Line: 1 + strings.Count(ahead, "\n"), Column: 1 + len([]rune(line))}
}

// toBig reads a whole number.
func toBig(x api.Whole) *big.Int {
	out := new(big.Int)
	for _, limb := range slices.Backward(x.Mag) {
		out.Lsh(out, 32).Or(out, new(big.Int).SetUint64(uint64(limb)))
	}
	if x.Neg {
		out.Neg(out)
	}
	return out
}

// wholeOf answers the one form of a whole number.
func wholeOf(x *big.Int) api.Whole {
	out := api.Whole{Neg: x.Sign() < 0}
	for rest := new(big.Int).Abs(x); rest.Sign() > 0; rest.Rsh(rest, 32) {
		out.Mag = append(out.Mag, uint32(new(big.Int).And(rest, big.NewInt(1<<32-1)).Uint64()))
	}
	return out
}

// power answers 2^bits, and some more.
func power(bits uint, more int64) *big.Int {
	return new(big.Int).Add(new(big.Int).Lsh(big.NewInt(1), bits), big.NewInt(more))
}

// most is the greatest number of MaxLimbs limbs, as a text.
var most = power(32*api.MaxLimbs, -1).String()

// wides answers the numbers that a text says, a word each; `wide` is the greatest one of MaxWide limbs, `wider` one more.
func wides(s string) []api.Whole {
	var out []api.Whole
	for _, w := range strings.Fields(s) {
		x, ok := new(big.Int).SetString(w, 10)
		switch {
		case w == "wide":
			x = power(32*api.MaxWide, -1)
		case w == "wider":
			x = power(32*api.MaxWide, 0)
		case !ok:
			panic("no number: " + w)
		}
		out = append(out, wholeOf(x))
	}
	return out
}

// say answers numbers as a text, for what is told in a test.
func say(l ...api.Whole) string {
	var out []string
	for _, x := range l {
		out = append(out, toBig(x).String())
	}
	return strings.Join(out, " ")
}

// oneForm says whether a number is told in its one form.
func oneForm(x api.Whole) bool {
	want := wholeOf(toBig(x))
	return x.Neg == want.Neg && slices.Equal(x.Mag, want.Mag)
}

// equalEdge says whether two edges are the same, each number of the first one's row in its one form.
func equalEdge(a, b api.Edge) bool {
	rows := len(a.Row) == len(b.Row) && say(a.Row...) == say(b.Row...)
	for _, x := range a.Row {
		rows = rows && oneForm(x)
	}
	a.Row, b.Row = nil, nil
	return rows && reflect.DeepEqual(a, b)
}

// bare answers edges without their places.
func bare(l []api.Edge) []api.Edge {
	out := slices.Clone(l)
	for i := range out {
		out[i].At = api.Place{}
	}
	return out
}

// parsed answers the program of a text that is one.
func parsed(t *testing.T, text string) *lang.Program {
	t.Helper()
	p, e, at := lang.Parse(text)
	if e != api.OK {
		t.Fatalf("Parse(%.300q): %v at %v", text, e, at)
	}
	return p
}

// graphed answers the graph of a text that has one.
func graphed(t *testing.T, text string) *graph.Graph {
	t.Helper()
	g, e := graph.Of(parsed(t, text))
	if e != api.OK || g == nil {
		t.Fatalf("P10.1: Of(%.300q): %v", text, e)
	}
	return g
}

// tooBig fails the test if a program is not refused as too big.
func tooBig(t *testing.T, text string) {
	t.Helper()
	if g, e := graph.Of(parsed(t, text)); g != nil || e != api.ErrTooBig {
		t.Fatalf("P10.1: Of(%.300q): %v, want it too big", text, e)
	}
}

// stream answers numbers that look as if by chance, the same ones in each run.
type stream struct{ at uint64 }

func (s *stream) next() uint32 {
	s.at = s.at*6364136223846793005 + 1442695040888963407
	return uint32(s.at>>33 ^ s.at>>17)
}

// below answers a number from 0 to n - 1.
func (s *stream) below(n int) int { return int(s.next() % uint32(n)) }

// pick answers one of these.
func (s *stream) pick(of ...string) string { return of[s.below(len(of))] }

// state draws numbers in any form: small ones, and some long ones, those on top 0 now and then.
func (s *stream) state(count int) []api.Whole {
	out := make([]api.Whole, count)
	for i := range out {
		mag := []uint32{uint32(s.below(5))}
		switch s.below(12) {
		case 0:
			mag = make([]uint32, s.below(9))
		case 1:
			mag = make([]uint32, api.MaxWide+s.below(2))
		}
		if len(mag) > 1 {
			for j := range mag {
				mag[j] = s.next() | 1
			}
		}
		out[i] = api.Whole{Neg: s.below(2) == 0, Mag: append(mag, make([]uint32, s.below(3))...)}
	}
	return out
}
