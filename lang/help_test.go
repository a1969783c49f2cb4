package lang_test

import (
	"math/big"
	"slices"
	"strings"
	"testing"

	"rafter/api"
	"rafter/lang"
)

// The tests ask the exported calls alone. Programs and expressions are drawn first and written then, so that what they must say is known without reading them (sketch_test.go); what is refused is held against the chapter's grammar, gone through with all its ways at once (model_test.go); numbers are held against math/big.

// few are names of variables; one is as long as names may be, and more bytes than glyphs.
var few = []string{"x", "y", "\u03b1\u2081", "\u0416_\u03c9\u2032aaaaaaaaaaa"}

// words are those of the language.
var words = []string{"vars", "any", "skip", "stop", "mark", "choose", "or", "loop", "if", "else", "while"}

// place answers a place.
func place(b, g, l, c int) api.Place { return api.Place{Byte: b, Glyph: g, Line: l, Column: c} }

// placeOf answers the place so many bytes into s, counted anew from its beginning.
func placeOf(s string, bytes int) api.Place {
	ahead := s[:bytes]
	line := ahead[strings.LastIndex(ahead, "\n")+1:]
	return place(bytes, len([]rune(ahead)), 1+strings.Count(ahead, "\n"), 1+len([]rune(line)))
}

// toBig reads a whole number.
func toBig(x api.Whole) *big.Int {
	out := new(big.Int)
	for _, limb := range slices.Backward(x.Mag) {
		out.Lsh(out, 32).Or(out, new(big.Int).SetUint64(uint64(limb)))
	}
	if x.Neg {
		out.Neg(out)
	}
	return out
}

// wholeOf answers the one form of a whole number.
func wholeOf(x *big.Int) api.Whole {
	out := api.Whole{Neg: x.Sign() < 0}
	for rest := new(big.Int).Abs(x); rest.Sign() > 0; rest.Rsh(rest, 32) {
		out.Mag = append(out.Mag, uint32(new(big.Int).And(rest, big.NewInt(1<<32-1)).Uint64()))
	}
	return out
}

// whole reads a number in decimal digits.
func whole(s string) api.Whole {
	x, ok := new(big.Int).SetString(s, 10)
	if !ok {
		panic("no number: " + s)
	}
	return wholeOf(x)
}

// power answers 2^bits, and some more.
func power(bits uint, more int64) *big.Int {
	return new(big.Int).Add(new(big.Int).Lsh(big.NewInt(1), bits), big.NewInt(more))
}

// state answers numbers in their one form, from a text with blanks between.
func state(s string) []api.Whole {
	var out []api.Whole
	for _, w := range strings.Fields(s) {
		out = append(out, whole(w))
	}
	return out
}

// equalWhole says whether two numbers are the same, field for field.
func equalWhole(x, y api.Whole) bool { return x.Neg == y.Neg && slices.Equal(x.Mag, y.Mag) }

// equalBegin says whether two variables begin alike, field for field.
func equalBegin(a, b api.Begin) bool {
	return a.Name == b.Name && a.Any == b.Any && equalWhole(a.Value, b.Value)
}

// bare answers lines without their places.
func bare(l []api.Line) []api.Line {
	out := slices.Clone(l)
	for i := range out {
		out[i].At = api.Place{}
	}
	return out
}

// parsed answers the program of a text that is one.
func parsed(t *testing.T, text string) *lang.Program {
	t.Helper()
	p, e, at := lang.Parse(text)
	if e != api.OK || at != (api.Place{}) || p == nil {
		t.Fatalf("P8.3: Parse(%q): %v at %v", text, e, at)
	}
	return p
}

// sameProgram fails the test if two programs differ in more than the places of their lines.
func sameProgram(t *testing.T, what string, got, want *lang.Program) {
	t.Helper()
	if got.Print() != want.Print() {
		t.Fatalf("%s:\n%swant\n%s", what, got.Print(), want.Print())
	}
	if !slices.Equal(got.Vars(), want.Vars()) || !slices.EqualFunc(got.Begins(), want.Begins(), equalBegin) || !slices.Equal(bare(got.Lines()), bare(want.Lines())) {
		t.Fatalf("%s: %q %v %v, want %q %v %v", what, got.Vars(), got.Begins(), got.Lines(), want.Vars(), want.Begins(), want.Lines())
	}
}

// refused fails the test if Parse(text) does not answer this error, at so many bytes, and nothing else.
func refused(t *testing.T, text string, e api.Errno, bytes int) {
	t.Helper()
	p, got, at := lang.Parse(text)
	if got != e || p != nil || at != placeOf(text, bytes) {
		t.Errorf("P8.3: Parse(%.80q): %v, %v at %v; want %v at %v", text, p, got, at, e, placeOf(text, bytes))
	}
}

// stream answers numbers that look as if by chance, the same ones in each run.
type stream struct{ at uint64 }

func (s *stream) next() uint32 {
	s.at = s.at*6364136223846793005 + 1442695040888963407
	return uint32(s.at>>33 ^ s.at>>17)
}

// below answers a number from 0 to n - 1.
func (s *stream) below(n int) int { return int(s.next() % uint32(n)) }

// pick answers one of these.
func (s *stream) pick(of ...string) string { return of[s.below(len(of))] }

// whole answers a number in any form: a small one, or one of up to n limbs, those on top 0 now and then.
func (s *stream) whole(n int) api.Whole {
	x := api.Whole{Neg: s.below(2) == 0, Mag: []uint32{uint32(s.below(7))}}
	if s.below(3) == 0 {
		x.Mag = make([]uint32, s.below(n+1))
		for i := range x.Mag {
			x.Mag[i] = s.next()
		}
	}
	return api.Whole{Neg: x.Neg, Mag: append(x.Mag, make([]uint32, s.below(3))...)}
}

// wholes answers count numbers in any form.
func (s *stream) wholes(count, n int) []api.Whole {
	out := make([]api.Whole, count)
	for i := range out {
		out[i] = s.whole(n)
	}
	return out
}
