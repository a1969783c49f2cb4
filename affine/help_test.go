package affine_test

import (
	"math/big"
	"regexp"
	"slices"
	"strings"
	"testing"

	"rafter/api"
	"rafter/glyph"
)

// The tests ask the exported calls alone. Numbers are held against math/big, equations against patterns over their tokens: neither shares code with what is tested.

var (
	xy  = []string{"x", "y"}
	few = []string{"x", "y", "\u03b1\u2081", "q_9"}
	// most is 2^1024 - 1, the greatest number of MaxLimbs limbs.
	most = new(big.Int).Sub(new(big.Int).Lsh(big.NewInt(1), 32*api.MaxLimbs), big.NewInt(1))
)

// at answers a place.
func at(b, g, l, c int) api.Place { return api.Place{Byte: b, Glyph: g, Line: l, Column: c} }

// toNat reads limbs: the sum of a[i] 2^(32 i).
func toNat(a []uint32) *big.Int {
	out := new(big.Int)
	for _, limb := range slices.Backward(a) {
		out.Lsh(out, 32).Or(out, new(big.Int).SetUint64(uint64(limb)))
	}
	return out
}

// toBig reads a whole number.
func toBig(x api.Whole) *big.Int {
	out := toNat(x.Mag)
	if x.Neg {
		out.Neg(out)
	}
	return out
}

// toRat reads a fraction: one over 0 counts as 0.
func toRat(r api.Ratio) *big.Rat {
	under := toNat(r.Den)
	if under.Sign() == 0 {
		return new(big.Rat)
	}
	return new(big.Rat).SetFrac(toBig(r.Num), under)
}

// natOf answers the one form of a natural.
func natOf(x *big.Int) []uint32 {
	var out []uint32
	for rest := new(big.Int).Set(x); rest.Sign() > 0; rest.Rsh(rest, 32) {
		out = append(out, uint32(new(big.Int).And(rest, big.NewInt(1<<32-1)).Uint64()))
	}
	return out
}

// wholeOf answers the one form of a whole number.
func wholeOf(x *big.Int) api.Whole {
	return api.Whole{Neg: x.Sign() < 0, Mag: natOf(new(big.Int).Abs(x))}
}

// ratioOf answers the one form of a fraction.
func ratioOf(x *big.Rat) api.Ratio {
	return api.Ratio{Num: wholeOf(x.Num()), Den: natOf(x.Denom())}
}

// rat reads a fraction in decimal digits.
func rat(s string) *big.Rat {
	x, ok := new(big.Rat).SetString(s)
	if !ok {
		panic("no fraction: " + s)
	}
	return x
}

// row answers whole numbers in their one form, from a text with blanks between; a `|` says nothing.
func row(s string) []api.Whole {
	var out []api.Whole
	for _, r := range ratios(s) {
		out = append(out, r.Num)
	}
	return out
}

// ratios answers fractions in their one form, from a text with blanks between.
func ratios(s string) []api.Ratio {
	var out []api.Ratio
	for _, w := range strings.Fields(strings.ReplaceAll(s, "|", " ")) {
		out = append(out, ratioOf(rat(w)))
	}
	return out
}

// say answers a row in decimal digits.
func say(l []api.Whole) string {
	var out []string
	for _, x := range l {
		out = append(out, toBig(x).String())
	}
	return strings.Join(out, " ")
}

// equal says whether two rows are the same, field for field.
func equal(a, b []api.Whole) bool { return slices.EqualFunc(a, b, equalWhole) }

// equalWhole says whether two numbers are the same, field for field.
func equalWhole(x, y api.Whole) bool { return x.Neg == y.Neg && slices.Equal(x.Mag, y.Mag) }

// same fails the test if two rows are not the same, field for field.
func same(t *testing.T, what string, got, want []api.Whole) {
	t.Helper()
	if !equal(got, want) {
		t.Fatalf("%s: %v, want %v", what, got, want)
	}
}

// canonOf answers the canonical row of fractions, and whether it is short enough to be told. It goes by another way than the package: divided by the first number that is not 0, and then multiplied by what makes all whole.
func canonOf(l []*big.Rat) ([]api.Whole, bool) {
	first := slices.IndexFunc(l, func(x *big.Rat) bool { return x.Sign() != 0 })
	if first < 0 {
		return make([]api.Whole, len(l)), true
	}
	times := big.NewInt(1)
	var scaled []*big.Rat
	for _, x := range l {
		x = new(big.Rat).Quo(x, l[first])
		scaled = append(scaled, x)
		common := new(big.Int).GCD(nil, nil, times, x.Denom())
		times.Mul(times, new(big.Int).Quo(x.Denom(), common))
	}
	var out []api.Whole
	short := true
	for _, x := range scaled {
		n := new(big.Rat).Mul(x, new(big.Rat).SetInt(times)).Num()
		short = short && n.CmpAbs(most) <= 0
		out = append(out, wholeOf(n))
	}
	return out, short
}

// Patterns of equations over a letter a token: n a number, z the number 0, v a variable, u another name, $ the end, a sign itself (`?` for all that no equation has).
const (
	termPattern = `(?:[nz](?:/n)?(?:\*?v)?|v)`
	sidePattern = `[+-]?` + termPattern + `(?:[+-]` + termPattern + `)*`
)

var (
	sentence = regexp.MustCompile(`^` + sidePattern + `=` + sidePattern + `\$$`)
	terms    = regexp.MustCompile(`[+-]?` + termPattern)
	// tails end whatever can be ended.
	tails = []string{"", "$", "n$", "v$", "=n$", "n=n$", "v=n$"}
)

// letters answers the letters of tokens.
func letters(tokens []api.Token, vars []string) string {
	var out strings.Builder
	for _, t := range tokens {
		letter := "?"
		switch {
		case t.Kind == api.TokenEnd:
			letter = "$"
		case t.Kind == api.TokenNumber && t.Text == "0":
			letter = "z"
		case t.Kind == api.TokenNumber:
			letter = "n"
		case t.Kind == api.TokenName && slices.Contains(vars, t.Text):
			letter = "v"
		case t.Kind == api.TokenName:
			letter = "u"
		case strings.Contains("+-*/=", t.Text):
			letter = t.Text
		}
		out.WriteString(letter)
	}
	return out.String()
}

// firstBad answers the first token with which no equation goes on: with it, there is no tail that makes one. -1, if there is none.
func firstBad(word string) int {
	for i := range word {
		goesOn := func(tail string) bool { return sentence.MatchString(word[:i+1] + tail) }
		if !slices.ContainsFunc(tails, goesOn) {
			return i
		}
	}
	return -1
}

// sums answers the row of an equation, its sides' terms added up; not canonical.
func sums(tokens []api.Token, word string, vars []string) []*big.Rat {
	out := make([]*big.Rat, len(vars)+1)
	for i := range out {
		out[i] = new(big.Rat)
	}
	for _, ends := range terms.FindAllStringIndex(word, -1) {
		x, place := big.NewRat(1, 1), len(vars)
		for i := ends[0]; i < ends[1]; i++ {
			switch word[i] {
			case '-':
				x.Neg(x)
			case 'v':
				place = slices.Index(vars, tokens[i].Text)
			case 'n', 'z':
				n := rat(tokens[i].Text)
				if i > 0 && word[i-1] == '/' {
					n.Inv(n)
				}
				x.Mul(x, n)
			}
		}
		right := strings.Contains(word[:ends[0]], "=")
		if right != (place == len(vars)) {
			x.Neg(x)
		}
		out[place].Add(out[place], x)
	}
	return out
}

// equationOf answers what Equation must answer, of names that are taken.
func equationOf(text string, vars []string) ([]api.Whole, api.Errno, api.Place) {
	tokens, e, p := glyph.Scan(text)
	if e == api.ErrTooBig {
		return nil, e, p
	}
	if e != api.OK {
		return nil, api.ErrBadEquation, p
	}
	word := letters(tokens, vars)
	if bad := firstBad(word); bad >= 0 {
		return nil, api.ErrBadEquation, tokens[bad].At
	}
	out, short := canonOf(sums(tokens, word, vars))
	if !short {
		return nil, api.ErrTooBig, api.Place{}
	}
	return out, api.OK, api.Place{}
}

// stream answers numbers that look as if by chance, the same ones in each run.
type stream struct{ at uint64 }

func (s *stream) next() uint32 {
	s.at = s.at*6364136223846793005 + 1442695040888963407
	return uint32(s.at>>33 ^ s.at>>17)
}

// below answers a number from 0 to n - 1.
func (s *stream) below(n int) int { return int(s.next() % uint32(n)) }

// pick answers one of these.
func (s *stream) pick(of ...string) string { return of[s.below(len(of))] }

// nat answers 0 to n limbs, some of them at an edge; those on top may be 0.
func (s *stream) nat(n int) []uint32 {
	edges := []uint32{0, 1, 1 << 31, 1<<32 - 1}
	out := make([]uint32, s.below(n+1))
	for i := range out {
		out[i] = s.next()
		if s.below(3) == 0 {
			out[i] = edges[s.below(len(edges))]
		}
	}
	return out
}

// whole answers a number in any form: a small one, or one of up to n limbs.
func (s *stream) whole(n int) api.Whole {
	x := api.Whole{Neg: s.below(2) == 0, Mag: []uint32{uint32(s.below(7))}}
	if s.below(3) == 0 {
		x.Mag = s.nat(n)
	}
	return x
}

// wholes answers count numbers in any form.
func (s *stream) wholes(count, n int) []api.Whole {
	out := make([]api.Whole, count)
	for i := range out {
		out[i] = s.whole(n)
	}
	return out
}

// ratios answers count fractions in any form, some of them over 0.
func (s *stream) ratios(count, n int) []api.Ratio {
	out := make([]api.Ratio, count)
	for i := range out {
		out[i] = api.Ratio{Num: s.whole(n), Den: s.whole(n).Mag}
	}
	return out
}

// canonical answers a canonical row of count numbers, each of them of at most MaxLimbs limbs.
func (s *stream) canonical(count int) []api.Whole {
	var l []*big.Rat
	for range count {
		l = append(l, new(big.Rat).SetInt(toBig(s.whole(3))))
	}
	out, _ := canonOf(l)
	return out
}

// names answers count names.
func (s *stream) names(count int) []string {
	var out []string
	for i := range count {
		out = append(out, s.pick("x", "\u03b1", "\u0416_", "longlonglonglo")+string(rune('a'+i)))
	}
	return out
}

// equation answers an equation's tokens, with the names of few and numbers of all lengths.
func (s *stream) equation() []string {
	var out []string
	number := func() string {
		return s.pick("0", "1", "2", "3", "12", "007", "4294967296", toBig(api.Whole{Mag: s.nat(30)}).String())
	}
	for side := range 2 {
		if side == 1 {
			out = append(out, "=")
		}
		out = append(out, s.pick("", "", "+", "-"))
		for i := range 1 + s.below(4) {
			if i > 0 {
				out = append(out, s.pick("+", "-"))
			}
			out = append(out, s.pick("", number(), number()))
			if out[len(out)-1] != "" && s.below(2) == 0 {
				out = append(out, "/", number()+"1")
			}
			if out[len(out)-1] == "" || s.below(2) == 0 {
				out = append(out, s.pick("", "*"), s.pick(few...))
				if out[len(out)-3] == "" {
					out[len(out)-2] = ""
				}
			}
		}
	}
	return slices.DeleteFunc(out, func(w string) bool { return w == "" })
}

// spoilt answers tokens of which one is left out, doubled or exchanged for another one.
func (s *stream) spoilt(words []string) []string {
	i := s.below(len(words))
	switch s.below(3) {
	case 0:
		return slices.Delete(slices.Clone(words), i, i+1)
	case 1:
		return slices.Insert(slices.Clone(words), i, words[s.below(len(words))])
	}
	out := slices.Clone(words)
	out[i] = s.pick("0", "5", "x", "z", "vars", "+", "-", "*", "/", "=", ":=", "!=", "(", ")", ";", "?", "%", "@", "{", ",", "<", ":", "\u2081", "\xff", "abcdefghijklmnopq", most.String()+"0")
	return out
}

// text answers tokens with blanks between: those that must stand between, and others.
func (s *stream) text(words []string) string {
	var out strings.Builder
	for i, w := range words {
		if i > 0 && w[0] > ' ' {
			out.WriteString(s.pick(" ", " ", "\n", "\t ", "\u00a0", "\u3000", " # x = 1 \u00e9\n"))
		}
		out.WriteString(w)
	}
	return out.String()
}

// texts answers equations and what is none.
func texts() []string {
	out := []string{"", " ", "=", "x", "x = y", "2x=4y-6", "x2 = 1", "\u03b1\u2081 = 2\u00b7x \u2212 003/4 # so\n+ q_9"}
	s := &stream{5}
	for range 600 {
		words := s.equation()
		out = append(out, s.text(words), s.text(s.spoilt(words)), s.text(s.spoilt(s.spoilt(words))))
	}
	return out
}
