package prune_test

import (
	"fmt"
	"math"
	"math/big"
	"slices"
	"strings"
	"testing"

	"rafter/api"
	"rafter/lang"
	"rafter/prune"
)

// The tests ask the exported calls alone. Programs are drawn as texts (sketch_test.go); what must be left of one is reckoned from its Lines, by what guard, solver and span tell (model_test.go); what follows from it is held against runs of the machine and against the solver (follows_test.go).

// toBig reads a whole number.
func toBig(x api.Whole) *big.Int {
	out := new(big.Int)
	for _, limb := range slices.Backward(x.Mag) {
		out.Lsh(out, 32).Or(out, new(big.Int).SetUint64(uint64(limb)))
	}
	if x.Neg {
		out.Neg(out)
	}
	return out
}

// wholeOf answers the one form of a whole number.
func wholeOf(x *big.Int) api.Whole {
	out := api.Whole{Neg: x.Sign() < 0}
	for rest := new(big.Int).Abs(x); rest.Sign() > 0; rest.Rsh(rest, 32) {
		out.Mag = append(out.Mag, uint32(new(big.Int).And(rest, big.NewInt(math.MaxUint32)).Uint64()))
	}
	return out
}

// added answers x + by y.
func added(x api.Whole, by int, y api.Whole) api.Whole {
	more := new(big.Int).Mul(big.NewInt(int64(by)), toBig(y))
	return wholeOf(more.Add(more, toBig(x)))
}

// power answers 2^bits, and some more.
func power(bits uint, more int64) *big.Int {
	return new(big.Int).Add(new(big.Int).Lsh(big.NewInt(1), bits), big.NewInt(more))
}

// most is the greatest number of MaxLimbs limbs.
func most() *big.Int { return power(32*api.MaxLimbs, -1) }

// spelt puts long numbers into a text: M is the greatest number of MaxLimbs limbs, N the one less 2; K 2^992 (the least one of MaxLimbs limbs).
func spelt(text string) string {
	return strings.NewReplacer("M", most().String(), "N", power(32*api.MaxLimbs, -3).String(), "K", power(32*api.MaxLimbs-32, 0).String()).Replace(text)
}

// numbers answers those that a text says, a word each.
func numbers(text string) []api.Whole {
	var out []api.Whole
	for _, w := range strings.Fields(spelt(text)) {
		x, ok := new(big.Int).SetString(w, 10)
		if !ok {
			panic("no number: " + w)
		}
		out = append(out, wholeOf(x))
	}
	return out
}

// say answers numbers as a text, for what is told in a test.
func say(l []api.Whole) string {
	var out []string
	for _, x := range l {
		out = append(out, toBig(x).String())
	}
	return strings.Join(out, " ")
}

// sayRows answers rows as a text.
func sayRows(l [][]api.Whole) string {
	var out []string
	for _, row := range l {
		out = append(out, say(row))
	}
	return strings.Join(out, "; ")
}

// told answers all that a program tells, as one text.
func told(p *lang.Program) string {
	return fmt.Sprintln(p.Vars(), p.Begins(), p.Lines(), p.Print())
}

// parsed answers the program of a text, in which long numbers are spelt by letters.
func parsed(t testing.TB, text string) *lang.Program {
	t.Helper()
	p, e, at := lang.Parse(spelt(text))
	if e != api.OK {
		t.Fatalf("Parse(%.300q): %v at %v", text, e, at)
	}
	return p
}

// pruned answers what is left of a program.
func pruned(t testing.TB, p *lang.Program) *lang.Program {
	t.Helper()
	q, e := prune.Prune(p)
	if e != api.OK || q == nil {
		t.Fatalf("P18.1: %.300q: %v", p.Print(), e)
	}
	return q
}

// onOneLine answers a program as it is printed, its lines with a `|` and no blanks ahead between each two.
func onOneLine(p *lang.Program) string {
	var out []string
	for _, line := range strings.Split(strings.TrimSuffix(p.Print(), "\n"), "\n") {
		out = append(out, strings.TrimLeft(line, " "))
	}
	return strings.Join(out, "|")
}

// stream answers numbers that look as if by chance, the same ones in each run.
type stream struct{ at uint64 }

func (s *stream) next() uint32 {
	s.at = s.at*6364136223846793005 + 1442695040888963407
	return uint32(s.at>>33 ^ s.at>>17)
}

// below answers a number from 0 to n - 1.
func (s *stream) below(n int) int { return int(s.next() % uint32(n)) }

// pick answers one of these.
func (s *stream) pick(of ...string) string { return of[s.below(len(of))] }

// choices draws so many choices. Now and then nearly all lead into a loop.
func (s *stream) choices(count int) []int {
	keen := s.below(3) == 0
	var out []int
	for range count {
		c := s.below(9) - 3
		if keen {
			c |= 1
		}
		if s.below(12) == 0 {
			c = int(uint64(s.next())<<32 | uint64(s.next()))
		}
		out = append(out, c)
	}
	return out
}

// row draws a row over so many variables.
func (s *stream) row(n int) []api.Whole {
	var out []api.Whole
	for range n + 1 {
		x := big.NewInt(int64(max(0, s.below(8)-4)))
		switch s.below(10) {
		case 0, 1, 2:
			x.Neg(x)
		case 3:
			x.Lsh(x, uint(s.below(2000)))
		}
		out = append(out, wholeOf(x))
	}
	return out
}
