package session_test

import (
	"fmt"
	"math"
	"math/big"
	"slices"
	"strings"
	"testing"

	"rafter/api"
	"rafter/session"
)

// The tests ask the exported calls alone. Programs are drawn as texts (sketch_test.go); what a session must tell of one is asked of the layers below, word for word as the chapter says, and of what is given on math/big's fractions (model_test.go, plane_test.go); what follows from it is held against runs (follows_test.go).

// asker is what is asked like a session.
type asker interface {
	Size() (points, edges int, e api.Errno)
	Point(name string) (int, api.Errno)
	Program() (string, api.Errno)
	Pruned() (string, api.Errno)
	Equations(point int) (string, api.Errno)
	Implied(point int, equation string) (bool, api.Errno, api.Place)
	Given(point int, given []string, equation string) (bool, api.Errno, api.Place)
	Refute(point int, equation string) (api.Witness, api.Errno, api.Place)
	Run(choices []int, fuel int) (api.Stand, api.Errno)
	Before(point int, equation string, at int) (string, api.Errno, api.Place)
	Relations(point int) (string, api.Errno)
	Related(point int, equation string) (bool, api.Errno, api.Place)
	Certificate() (string, api.Errno)
	Vouch(text string) (api.Errno, int)
}

// toBig reads a whole number.
func toBig(x api.Whole) *big.Int {
	out := new(big.Int)
	for _, limb := range slices.Backward(x.Mag) {
		out.Lsh(out, 32).Or(out, new(big.Int).SetUint64(uint64(limb)))
	}
	if x.Neg {
		out.Neg(out)
	}
	return out
}

// bigs reads whole numbers.
func bigs(l []api.Whole) []*big.Int {
	var out []*big.Int
	for _, x := range l {
		out = append(out, toBig(x))
	}
	return out
}

// wholeOf answers the one form of a whole number.
func wholeOf(x *big.Int) api.Whole {
	out := api.Whole{Neg: x.Sign() < 0}
	for rest := new(big.Int).Abs(x); rest.Sign() > 0; rest.Rsh(rest, 32) {
		out.Mag = append(out.Mag, uint32(new(big.Int).And(rest, big.NewInt(math.MaxUint32)).Uint64()))
	}
	return out
}

// wholes answers the one form of whole numbers.
func wholes(l []*big.Int) []api.Whole {
	var out []api.Whole
	for _, x := range l {
		out = append(out, wholeOf(x))
	}
	return out
}

// power answers 2^bits, and some more.
func power(bits uint, more int64) *big.Int {
	return new(big.Int).Add(new(big.Int).Lsh(big.NewInt(1), bits), big.NewInt(more))
}

// tooLong says whether a number has more than MaxLimbs limbs.
func tooLong(x *big.Int) bool { return x.CmpAbs(power(32*api.MaxLimbs, -1)) > 0 }

// spelt puts long numbers into a text: M is the greatest number of MaxLimbs limbs, N the one less 2, P one more, K 2^992 (the least one of MaxLimbs limbs), H 2^1023 (the greatest power of 2 of MaxLimbs limbs).
func spelt(text string) string {
	most := uint(32 * api.MaxLimbs)
	return strings.NewReplacer("M", power(most, -1).String(), "N", power(most, -3).String(), "P", power(most, 0).String(), "K", power(most-32, 0).String(), "H", power(most-1, 0).String()).Replace(text)
}

// say answers numbers as a text, for what is told in a test.
func say(l []api.Whole) string {
	var out []string
	for _, x := range l {
		out = append(out, toBig(x).String())
	}
	return strings.Join(out, " ")
}

// loaded answers a session that holds the program of a text, in which long numbers are spelt by letters.
func loaded(t testing.TB, text string) *session.Session {
	t.Helper()
	s := session.New()
	if e, at := s.Load(spelt(text)); e != api.OK || at != (api.Place{}) {
		t.Fatalf("P19.1: %.300q: %v at %v", text, e, at)
	}
	return s
}

// sizeOf answers how many points a session's program has.
func sizeOf(t testing.TB, s asker) int {
	t.Helper()
	points, _, e := s.Size()
	if e != api.OK {
		t.Fatalf("P19.2: Size: %v", e)
	}
	return points
}

// implied answers whether an equation is implied at a point.
func implied(t testing.TB, s asker, point int, equation string) bool {
	t.Helper()
	is, e, at := s.Implied(point, equation)
	if e != api.OK || at != (api.Place{}) {
		t.Fatalf("P19.2: Implied(%d, %q): %v at %v", point, equation, e, at)
	}
	return is
}

// equations answers the lines of what is told of a point.
func equations(t testing.TB, s asker, point int) []string {
	t.Helper()
	text, e := s.Equations(point)
	if e != api.OK {
		t.Fatalf("P19.2: Equations(%d): %v", point, e)
	}
	return strings.Split(strings.TrimSuffix(text, "\n"), "\n")[:strings.Count(text, "\n")]
}

// run answers where a run stands.
func run(t testing.TB, s asker, choices []int, fuel int) api.Stand {
	t.Helper()
	out, e := s.Run(choices, fuel)
	if e != api.OK {
		t.Fatalf("P19.2: Run(%v, %d): %v", choices, fuel, e)
	}
	return out
}

// told answers all that is told, in every field, as one text: of the whole, and of so many points that are drawn, some of which there are not. The questions are those of the stream.
func told(s asker, ask *stream, points int) string {
	var out strings.Builder
	line := func(l ...any) { fmt.Fprintln(&out, l...) }
	count, edges, e := s.Size()
	line("Size", count, edges, e)
	for _, name := range []string{"m", "m1", "m2", "m3", "n", "", "a", "@m1", "mark"} {
		p, e := s.Point(name)
		line("Point", name, p, e)
	}
	line(s.Program())
	line(s.Pruned())
	for range points {
		p := ask.below(count+2) - 1
		line("point", p)
		line(s.Equations(p))
		line(s.Relations(p))
		ask.equations(s, p, line)
	}
	for range 3 {
		line(s.Run(ask.choices(ask.below(20)), ask.below(100)-10))
	}
	text, e := s.Certificate()
	line(text, e)
	for _, c := range []string{text, "", "point\n", strings.Replace(text, "1", "2", 1), text + "row\n", strings.Replace(text, "sample -1", "sample 0", 1)} {
		line(s.Vouch(c))
	}
	return out.String()
}

// namesOf answers the names of a session's variables, as its program tells them; if there are none, others.
func namesOf(s asker) []string {
	program, _ := s.Program()
	line, _, _ := strings.Cut(program, ";")
	var out []string
	for _, decl := range strings.Split(strings.TrimPrefix(line, "vars"), ",") {
		name, _, _ := strings.Cut(decl, "=")
		if name = strings.TrimSpace(name); name != "" {
			out = append(out, name)
		}
	}
	if len(out) == 0 {
		return []string{"x", "y"}
	}
	return out
}

// equations asks some equations of a point, and hands on what is told.
func (s *stream) equations(of asker, point int, line func(l ...any)) {
	count, _, _ := of.Size()
	told, _ := of.Equations(point)
	names := namesOf(of)
	both := slices.Clone(names)
	for _, name := range names {
		both = append(both, name+"°")
	}
	for range 3 {
		q := s.equation(told, names)
		line(q)
		line(of.Implied(point, q))
		line(of.Refute(point, q))
		line(of.Before(point, q, s.below(count+2)-1))
		line(of.Related(point, s.equation(told, both)))
		var given []string
		for range s.below(4) {
			given = append(given, s.equation(told, names))
		}
		line(given)
		line(of.Given(point, given, q))
	}
}

// stream answers numbers that look as if by chance, the same ones in each run.
type stream struct{ at uint64 }

func (s *stream) next() uint32 {
	s.at = s.at*6364136223846793005 + 1442695040888963407
	return uint32(s.at>>33 ^ s.at>>17)
}

// below answers a number from 0 to n - 1.
func (s *stream) below(n int) int { return int(s.next() % uint32(n)) }

// pick answers one of these.
func (s *stream) pick(of ...string) string { return of[s.below(len(of))] }

// choices draws so many choices. Now and then nearly all lead into a loop.
func (s *stream) choices(count int) []int {
	keen := s.below(3) == 0
	var out []int
	for range count {
		c := s.below(9) - 3
		if keen {
			c |= 1
		}
		if s.below(12) == 0 {
			c = int(uint64(s.next())<<32 | uint64(s.next()))
		}
		out = append(out, c)
	}
	return out
}

// equation draws an equation over these names, or takes one of the lines that were told; or it draws a text that is none.
func (s *stream) equation(told string, names []string) string {
	lines := strings.SplitAfter(told, "\n")
	lines = lines[:len(lines)-1]
	switch kind := s.below(24); {
	case kind == 0:
		return s.pick("", "a", "a =", "= a", "a = b = c", "z = 1", "a° = b°", "a = 1 / 0", "a / 2 = 1", "\xff", "a == b", spelt("0 = P"), "a = b # so", spelt("M a = 1/2"))
	case kind == 1:
		return s.pick("0 = 0", "0 = 1", "1 = 2", "1 = 1")
	case kind < 10 && len(lines) > 0:
		return lines[s.below(len(lines))]
	case kind < 13 && len(lines) > 0:
		return strings.TrimSuffix(lines[s.below(len(lines))], "\n") + s.pick(" + 1", " - 1/2", " + "+s.pick(names...), " - 2 "+s.pick(names...))
	}
	return s.side(names) + " = " + s.side(names)
}

// side draws a side of an equation.
func (s *stream) side(names []string) string {
	out := s.term(names)
	for range s.below(3) {
		out += s.pick(" + ", " - ") + s.term(names)
	}
	return out
}

// term draws a term of an equation.
func (s *stream) term(names []string) string {
	name := s.pick(names...)
	number := s.pick("0", "1", "2", "3", "5", "1/2", "2/3")
	if s.below(20) == 0 {
		number = spelt(s.pick("M", "N", "K", "4294967296"))
	}
	return s.pick(name, name, number, number+" * "+name)
}
