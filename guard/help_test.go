package guard_test

import (
	"math/big"
	"slices"
	"strings"
	"testing"

	"rafter/api"
	"rafter/guard"
	"rafter/lang"
)

// The tests ask the exported calls alone. Expressions and programs are drawn first and written then, so that what they must come to is known without reading them (model_test.go); numbers are held against math/big.

var xy = []string{"x", "y"}

// many are as many names as may be; the last ones are none of a program, but of a relation.
var many = strings.Fields("x y z \u03b1\u2081 \u0416_ e f g h i j k l\u2032 m x\u00b0 y\u00b0")

// placeOf answers the place so many bytes into s, counted anew from its beginning.
func placeOf(s string, bytes int) api.Place {
	ahead := s[:bytes]
	line := ahead[strings.LastIndex(ahead, "\n")+1:]
	return api.Place{Byte: bytes, Glyph: len([]rune(ahead)), Line: 1 + strings.Count(ahead, "\n"), Column: 1 + len([]rune(line))}
}

// toBig reads a whole number.
func toBig(x api.Whole) *big.Int {
	out := new(big.Int)
	for _, limb := range slices.Backward(x.Mag) {
		out.Lsh(out, 32).Or(out, new(big.Int).SetUint64(uint64(limb)))
	}
	if x.Neg {
		out.Neg(out)
	}
	return out
}

// wholeOf answers the one form of a whole number.
func wholeOf(x *big.Int) api.Whole {
	out := api.Whole{Neg: x.Sign() < 0}
	for rest := new(big.Int).Abs(x); rest.Sign() > 0; rest.Rsh(rest, 32) {
		out.Mag = append(out.Mag, uint32(new(big.Int).And(rest, big.NewInt(1<<32-1)).Uint64()))
	}
	return out
}

// power answers 2^bits, and some more.
func power(bits uint, more int64) *big.Int {
	return new(big.Int).Add(new(big.Int).Lsh(big.NewInt(1), bits), big.NewInt(more))
}

// most is the greatest number of MaxLimbs limbs, and so the greatest one that a text may have.
var most = power(32*api.MaxLimbs, -1)

// row reads numbers with blanks between, a | among them too.
func row(s string) []*big.Int {
	var out []*big.Int
	for _, w := range strings.Fields(strings.ReplaceAll(s, "|", " ")) {
		x, ok := new(big.Int).SetString(w, 10)
		if !ok {
			panic("no number: " + w)
		}
		out = append(out, x)
	}
	return out
}

// say answers numbers as a text, for what is told in a test.
func say(l []api.Whole) string {
	var out []string
	for _, x := range l {
		out = append(out, toBig(x).String())
	}
	return strings.Join(out, " ")
}

// equal says whether numbers are those, each in its one form.
func equal(got []api.Whole, want []*big.Int) bool {
	return slices.EqualFunc(got, want, func(x api.Whole, w *big.Int) bool {
		one := wholeOf(w)
		return x.Neg == one.Neg && slices.Equal(x.Mag, one.Mag)
	})
}

// sameForm fails the test if Affine does not take a text, or does not tell this form (of nil: none).
func sameForm(t *testing.T, what, text string, vars []string, want []*big.Int) {
	t.Helper()
	f, ok, e, at := guard.Affine(text, vars)
	if e != api.OK || at != (api.Place{}) || ok != (want != nil) || !equal(f, want) {
		t.Fatalf("%s: Affine(%.200q) = %.200s, %v, %v at %v; want %.200v", what, text, say(f), ok, e, at, want)
	}
}

// sameRow fails the test if Cond does not take a text, or does not tell this row (of nil: none) and this sign.
func sameRow(t *testing.T, what, text string, vars []string, want []*big.Int, equals bool) {
	t.Helper()
	r, ok, eq, e, at := guard.Cond(text, vars)
	if e != api.OK || at != (api.Place{}) || ok != (want != nil) || eq != equals || !equal(r, want) {
		t.Fatalf("%s: Cond(%.200q) = %.200s, %v, %v, %v at %v; want %.200v, %v", what, text, say(r), ok, eq, e, at, want, equals)
	}
}

// affineRefused fails the test if Affine does not answer this error, there, and nothing beside it.
func affineRefused(t *testing.T, text string, vars []string, e api.Errno, at api.Place) {
	t.Helper()
	if f, ok, got, p := guard.Affine(text, vars); len(f) > 0 || ok || got != e || p != at {
		t.Fatalf("P9.2, R2: Affine(%.200q) = %v, %v, %v at %v; want %v at %v", text, f, ok, got, p, e, at)
	}
}

// condRefused fails the test if Cond does not answer this error, there, and nothing beside it.
func condRefused(t *testing.T, text string, vars []string, e api.Errno, at api.Place) {
	t.Helper()
	if r, ok, eq, got, p := guard.Cond(text, vars); len(r) > 0 || ok || eq || got != e || p != at {
		t.Fatalf("P9.3, R2: Cond(%.200q) = %v, %v, %v, %v at %v; want %v at %v", text, r, ok, eq, got, p, e, at)
	}
}

// parsed answers the program of a text that is one.
func parsed(t *testing.T, text string) *lang.Program {
	t.Helper()
	p, e, at := lang.Parse(text)
	if e != api.OK {
		t.Fatalf("Parse(%q): %v at %v", text, e, at)
	}
	return p
}

// stream answers numbers that look as if by chance, the same ones in each run.
type stream struct{ at uint64 }

func (s *stream) next() uint32 {
	s.at = s.at*6364136223846793005 + 1442695040888963407
	return uint32(s.at>>33 ^ s.at>>17)
}

// below answers a number from 0 to n - 1.
func (s *stream) below(n int) int { return int(s.next() % uint32(n)) }

// pick answers one of these.
func (s *stream) pick(of ...string) string { return of[s.below(len(of))] }

// wholes answers numbers in any form: small ones, some of up to n limbs, those on top 0 now and then.
func (s *stream) wholes(count, n int) []api.Whole {
	out := make([]api.Whole, count)
	for i := range out {
		mag := []uint32{uint32(s.below(4))}
		if n > 0 && s.below(3) == 0 {
			mag = make([]uint32, s.below(n+1))
			for j := range mag {
				mag[j] = s.next()
			}
		}
		out[i] = api.Whole{Neg: s.below(2) == 0, Mag: append(mag, make([]uint32, s.below(3))...)}
	}
	return out
}
