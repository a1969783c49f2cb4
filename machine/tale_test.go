package machine_test

import (
	"math/big"
	"slices"
	"testing"

	"rafter/api"
	"rafter/graph"
)

// tale goes through the statements of a drawn program as P8.2 says them, a step for each edge that P10.1 makes of them. It knows no points.
type tale struct {
	choices           []int
	state             []*big.Int
	fuel, steps, used int
	why               int
	code              api.Errno
}

// halted is thrown where a tale ends.
type halted struct{}

// taleOf tells a program.
func taleOf(p *program, choices []int, fuel int) (out *tale) {
	out = &tale{choices: choices, fuel: min(fuel, api.MaxFuel)}
	defer func() {
		if r := recover(); r != nil {
			_ = r.(halted)
		}
	}()
	for _, b := range p.begins {
		x := new(big.Int)
		switch {
		case b != nil:
			x = b
		case out.used < len(choices):
			x = big.NewInt(int64(choices[out.used]))
			out.used++
		}
		out.state = append(out.state, x)
	}
	out.row(p.body)
	out.end(api.WhyEnd, api.OK)
	return out
}

// end ends the tale.
func (a *tale) end(why int, code api.Errno) {
	a.why, a.code = why, code
	panic(halted{})
}

// step makes a step that can be made.
func (a *tale) step() {
	if a.steps >= a.fuel {
		a.end(api.WhyGo, api.OK)
	}
	a.steps++
}

// choice makes a step with the next choice, and answers it.
func (a *tale) choice() int {
	if a.used == len(a.choices) {
		a.end(api.WhyWait, api.OK)
	}
	a.step()
	a.used++
	return a.choices[a.used-1]
}

// picked makes a step with a choice of so many, and answers which one.
func (a *tale) picked(many int) int {
	return int(new(big.Int).Mod(big.NewInt(int64(a.choice())), big.NewInt(int64(many))).Int64())
}

func (a *tale) row(l []*sketch) {
	for _, k := range l {
		a.statement(k)
	}
}

func (a *tale) statement(k *sketch) {
	switch k.kind {
	case api.LineSet:
		x := a.value(k.left, !k.form)
		if tooWide(x) {
			a.end(api.WhyStuck, api.ErrTooBig)
		}
		a.step()
		a.become(k.v, x)
	case api.LineAny:
		a.become(k.v, big.NewInt(int64(a.choice())))
	case api.LineSkip:
		a.step()
	case api.LineStop:
		a.end(api.WhyEnd, api.OK)
	case api.LineChoose:
		a.row(k.blocks[a.picked(len(k.blocks))])
		a.step()
	case api.LineLoop:
		a.step()
		for a.picked(2) == 1 {
			a.row(k.blocks[0])
			a.step()
		}
	case api.LineIf:
		if a.holds(k) {
			a.row(k.blocks[0])
		} else if len(k.blocks) == 2 {
			a.row(k.blocks[1])
		}
		a.step()
	case api.LineWhile:
		a.step()
		for a.holds(k) {
			a.row(k.blocks[0])
			a.step()
		}
	}
}

// become gives a variable a number.
func (a *tale) become(v int, x *big.Int) {
	a.state = slices.Clone(a.state)
	a.state[v] = x
}

// holds makes the step of a condition, and says whether it holds.
func (a *tale) holds(k *sketch) bool {
	left := a.value(k.left, true)
	equal := left.Cmp(a.value(k.right, true)) == 0
	a.step()
	return equal == k.equal
}

// value reckons an expression; parts: each of its parts is asked how long it is.
func (a *tale) value(x *part, parts bool) *big.Int {
	out := new(big.Int)
	switch {
	case x.sign == "~":
		out.Neg(a.value(x.left, parts))
	case x.sign != "":
		left := a.value(x.left, parts)
		right := a.value(x.right, parts)
		a.reckon(out, x.sign, left, right)
	case x.number != nil:
		out = x.number
	default:
		out = a.state[x.v]
	}
	if parts && tooWide(out) {
		a.end(api.WhyStuck, api.ErrTooBig)
	}
	return out
}

func (a *tale) reckon(out *big.Int, sign string, left, right *big.Int) {
	if (sign == "/" || sign == "%") && right.Sign() == 0 {
		a.end(api.WhyStuck, api.ErrDivide)
	}
	switch sign {
	case "+":
		out.Add(left, right)
	case "-":
		out.Sub(left, right)
	case "*":
		out.Mul(left, right)
	case "/":
		out.Div(left, right) // so that the rest is never below 0
	case "%":
		out.Mod(left, right)
	}
}

// sameTale fails the test if a run does not stand as the tale of its program does.
func sameTale(t *testing.T, text string, got api.Stand, a *tale) {
	t.Helper()
	var state []api.Whole
	for _, x := range a.state {
		state = append(state, wholeOf(x))
	}
	want := api.Stand{Point: got.Point, State: state, Steps: a.steps, Used: a.used, Why: a.why, Code: a.code}
	if shown(got) != shown(want) {
		t.Fatalf("P11.2 to P11.5: %q with %v, fuel %d:\n%.300s, want\n%.300s", text, a.choices, a.fuel, shown(got), shown(want))
	}
}

func TestTales(t *testing.T) { // P11.1 to P11.5, held against the statements
	s := &stream{1}
	met := map[string]int{}
	drawn(t, s, 4000, func(p *program, text string, g *graph.Graph) {
		for range 3 {
			choices, fuel := s.choices(s.below(80)), s.below(250)-5
			got := ran(t, g, choices, fuel)
			sameTale(t, text, got, taleOf(p, choices, max(fuel, 0)))
			kind := []string{"go", "end", "wait", "stuck"}[got.Why]
			if got.Code != api.OK {
				kind += got.Code.Error()
			}
			met[kind]++
			if got.Why == api.WhyEnd && got.Point == g.Exit() && got.Steps > 20 {
				met["long"]++
			}
		}
	})
	for _, kind := range []string{"go", "end", "wait", "stuckerror 2", "stuckerror 20", "long"} {
		if met[kind] < 100 {
			t.Errorf("too few of a kind were drawn: %s %d", kind, met[kind])
		}
	}
}
