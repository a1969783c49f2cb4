package machine_test

import (
	"fmt"
	"math"
	"math/big"
	"slices"
	"strings"
	"testing"

	"rafter/api"
	"rafter/graph"
	"rafter/lang"
	"rafter/machine"
)

// The tests ask the exported calls alone. Programs are drawn first and written then (sketch_test.go); what a run of theirs must come to is told twice: by going through the drawn statements on math/big, without any graph (tale_test.go), and by going along a graph's edges word for word as the chapter says (model_test.go).

// toBig reads a whole number.
func toBig(x api.Whole) *big.Int {
	out := new(big.Int)
	for _, limb := range slices.Backward(x.Mag) {
		out.Lsh(out, 32).Or(out, new(big.Int).SetUint64(uint64(limb)))
	}
	if x.Neg {
		out.Neg(out)
	}
	return out
}

// wholeOf answers the one form of a whole number.
func wholeOf(x *big.Int) api.Whole {
	out := api.Whole{Neg: x.Sign() < 0}
	for rest := new(big.Int).Abs(x); rest.Sign() > 0; rest.Rsh(rest, 32) {
		out.Mag = append(out.Mag, uint32(new(big.Int).And(rest, big.NewInt(math.MaxUint32)).Uint64()))
	}
	return out
}

// power answers 2^bits, and some more.
func power(bits uint, more int64) *big.Int {
	return new(big.Int).Add(new(big.Int).Lsh(big.NewInt(1), bits), big.NewInt(more))
}

// tooWide says whether a number has more than MaxWide limbs.
func tooWide(x *big.Int) bool { return x.BitLen() > 32*api.MaxWide }

// most is the greatest number of MaxLimbs limbs, as a text.
var most = power(32*api.MaxLimbs, -1).String()

// numbers answers those that a text says, a word each; `wide` is the greatest one of MaxWide limbs, `wider` one more, `half` 2^(their bits - 1), each with a minus ahead or without.
func numbers(s string) []api.Whole {
	var out []api.Whole
	for _, w := range strings.Fields(s) {
		x, ok := new(big.Int).SetString(w, 10)
		switch strings.TrimPrefix(w, "-") {
		case "wide":
			x, ok = power(32*api.MaxWide, -1), true
		case "wider":
			x, ok = power(32*api.MaxWide, 0), true
		case "half":
			x, ok = power(32*api.MaxWide-1, 0), true
		}
		if !ok {
			panic("no number: " + w)
		}
		if w[0] == '-' {
			x = new(big.Int).Neg(new(big.Int).Abs(x))
		}
		out = append(out, wholeOf(x))
	}
	return out
}

// say answers numbers as a text, for what is told in a test.
func say(l ...api.Whole) string {
	var out []string
	for _, x := range l {
		out = append(out, toBig(x).String())
	}
	return strings.Join(out, " ")
}

// oneForm says whether numbers are told in their one form.
func oneForm(l ...api.Whole) bool {
	return !slices.ContainsFunc(l, func(x api.Whole) bool {
		want := wholeOf(toBig(x))
		return x.Neg != want.Neg || !slices.Equal(x.Mag, want.Mag)
	})
}

// shown answers a stand as a text: as a script tells it, the state behind it.
func shown(s api.Stand) string {
	why := []string{"go", "end", "wait", "stuck"}[s.Why]
	if s.Why == api.WhyStuck || s.Code != api.OK {
		why += fmt.Sprintf(" %d", s.Code)
	}
	form := ""
	if !oneForm(s.State...) {
		form = " in no one form"
	}
	return fmt.Sprintf("point %d steps %d used %d %s state %s%s", s.Point, s.Steps, s.Used, why, say(s.State...), form)
}

// parsed answers the program of a text that is one.
func parsed(t testing.TB, text string) *lang.Program {
	t.Helper()
	p, e, at := lang.Parse(text)
	if e != api.OK {
		t.Fatalf("Parse(%.300q): %v at %v", text, e, at)
	}
	return p
}

// graphed answers the graph of a text that has one.
func graphed(t testing.TB, text string) *graph.Graph {
	t.Helper()
	g, e := graph.Of(parsed(t, text))
	if e != api.OK {
		t.Fatalf("Of(%.300q): %v", text, e)
	}
	return g
}

// begun answers a machine at a graph's beginning.
func begun(t testing.TB, g *graph.Graph, choices ...int) *machine.Machine {
	t.Helper()
	m, e := machine.Begin(g, choices)
	if e != api.OK || m == nil {
		t.Fatalf("P11.1: Begin: %v", e)
	}
	return m
}

// put answers a machine at a point, in a state.
func put(t testing.TB, g *graph.Graph, point int, state []api.Whole, choices ...int) *machine.Machine {
	t.Helper()
	m, e := machine.From(g, point, state, choices)
	if e != api.OK || m == nil {
		t.Fatalf("P11.1: From(%d): %v", point, e)
	}
	return m
}

// ran answers where a run stands.
func ran(t testing.TB, g *graph.Graph, choices []int, fuel int) api.Stand {
	t.Helper()
	s, e := machine.Run(g, choices, fuel)
	if e != api.OK {
		t.Fatalf("P11.5: Run: %v", e)
	}
	return s
}

// stands fails the test if a machine does not tell this.
func stands(t testing.TB, m *machine.Machine, want string) {
	t.Helper()
	if got := shown(m.Tell()); got != want {
		t.Errorf("it stands at %.300s; want %.300s", got, want)
	}
}

// stream answers numbers that look as if by chance, the same ones in each run.
type stream struct{ at uint64 }

func (s *stream) next() uint32 {
	s.at = s.at*6364136223846793005 + 1442695040888963407
	return uint32(s.at>>33 ^ s.at>>17)
}

// below answers a number from 0 to n - 1.
func (s *stream) below(n int) int { return int(s.next() % uint32(n)) }

// pick answers one of these.
func (s *stream) pick(of ...string) string { return of[s.below(len(of))] }

// choices draws so many choices: most of them small, some of them any int. Now and then nearly all lead into a loop.
func (s *stream) choices(count int) []int {
	keen := s.below(3) == 0
	var out []int
	for range count {
		c := s.below(7) - 2
		if keen {
			c |= 1
		}
		switch s.below(12) {
		case 0:
			c = int(uint64(s.next())<<32 | uint64(s.next()))
		case 1:
			c = []int{math.MinInt, math.MaxInt, math.MinInt + 1, 1 << 32}[s.below(4)]
		}
		out = append(out, c)
	}
	return out
}

// state draws numbers in any form: small ones, and some long ones, those on top 0 now and then; none is too wide.
func (s *stream) state(count int) []api.Whole {
	var out []api.Whole
	for range count {
		mag := []uint32{uint32(s.below(5))}
		switch s.below(8) {
		case 0:
			mag = make([]uint32, s.below(9))
		case 1:
			mag = make([]uint32, api.MaxWide-s.below(3))
		}
		if len(mag) > 1 {
			for j := range mag {
				mag[j] = s.next() | 1
			}
		}
		out = append(out, api.Whole{Neg: s.below(2) == 0, Mag: append(mag, make([]uint32, s.below(3))...)})
	}
	return out
}
