package machine_test

import (
	"math"
	"testing"

	"rafter/api"
	"rafter/graph"
	"rafter/machine"
)

func TestBegin(t *testing.T) { // P11.1
	for _, c := range []struct {
		text    string
		choices []int
		want    string
	}{
		{"vars;", nil, "point 0 steps 0 used 0 end state "},
		{"vars;", []int{1, 2}, "point 0 steps 0 used 0 end state "},
		{"vars x = -3, y = 0;", []int{7}, "point 0 steps 0 used 0 end state -3 0"},
		{"vars x, y;", nil, "point 0 steps 0 used 0 end state 0 0"},
		{"vars x, y;", []int{7}, "point 0 steps 0 used 1 end state 7 0"},
		{"vars x, y;", []int{7, -2}, "point 0 steps 0 used 2 end state 7 -2"},
		{"vars x, y;", []int{0, -2, 5}, "point 0 steps 0 used 2 end state 0 -2"},
		{"vars a, b = 4, c, d = -" + most + ", e;", []int{1, 2, 3, 9}, "point 0 steps 0 used 3 end state 1 4 2 -" + most + " 3"},
		{"vars a, b = 4, c, d = 8, e;", []int{1, 2}, "point 0 steps 0 used 2 end state 1 4 2 8 0"},
		{"vars x, y; skip;", []int{math.MinInt, math.MaxInt}, "point 0 steps 0 used 2 go state -9223372036854775808 9223372036854775807"},
		{"vars x, y; loop { }", []int{1, 2}, "point 0 steps 0 used 2 go state 1 2"},
		{"vars a, b, c, d, e, f, g, h;", []int{8, 7, 6, 5, 4, 3, 2, 1}, "point 0 steps 0 used 8 end state 8 7 6 5 4 3 2 1"},
	} {
		m := begun(t, graphed(t, c.text), c.choices...)
		stands(t, m, c.want)
		if m.Go(0) != 0 {
			t.Errorf("P11.4: %s: a step is made without fuel", c.text)
		}
		stands(t, m, c.want)
	}
}

func TestFrom(t *testing.T) { // P11.1: none of the choices is used, whatever the variables begin with
	g := graphed(t, "vars x, y = 3; skip; x := any; stop;")
	stands(t, put(t, g, 0, numbers("5 -6"), 1, 2), "point 0 steps 0 used 0 go state 5 -6")
	stands(t, put(t, g, 1, numbers("0 0")), "point 1 steps 0 used 0 wait state 0 0")
	stands(t, put(t, g, 2, numbers("wide -wide"), 1), "point 2 steps 0 used 0 end state "+say(numbers("wide -wide")...))
	stands(t, put(t, g, 3, numbers("1 2")), "point 3 steps 0 used 0 end state 1 2")
	stands(t, put(t, graphed(t, "vars;"), 0, nil), "point 0 steps 0 used 0 end state ")
	stands(t, put(t, graphed(t, "vars;"), 0, []api.Whole{}), "point 0 steps 0 used 0 end state ")
}

// refused fails the test if From does not answer this error, and nothing beside it.
func refused(t *testing.T, g *graph.Graph, point int, state []api.Whole, want api.Errno) {
	t.Helper()
	if m, e := machine.From(g, point, state, []int{1}); m != nil || e != want {
		t.Errorf("P11.1, R2: From(%d): %v, %v; want %v", point, m, e, want)
	}
}

func TestRefused(t *testing.T) { // P11.1, P11.5, R2: the first of the errors, and nothing else
	g := graphed(t, "vars x, y = 3; skip; skip;")
	for _, choices := range [][]int{nil, {}, {1, 2}} {
		if m, e := machine.Begin(nil, choices); m != nil || e != api.ErrArg {
			t.Errorf("P11.1: Begin(nil): %v, %v", m, e)
		}
		for _, fuel := range []int{math.MinInt, -1, 0, 9, math.MaxInt} {
			if s, e := machine.Run(nil, choices, fuel); e != api.ErrArg || shown(s) != shown(api.Stand{}) || len(s.State) != 0 {
				t.Errorf("P11.5: Run(nil): %v, %v", s, e)
			}
		}
	}
	for _, state := range []string{"", "1", "1 2", "1 wider", "1 2 3"} {
		refused(t, nil, 0, numbers(state), api.ErrArg)
		refused(t, nil, 9, numbers(state), api.ErrArg)
		for _, point := range []int{-1, 3, 4, 64, math.MaxInt, math.MinInt} {
			refused(t, g, point, numbers(state), api.ErrPoint)
		}
	}
	for point := range g.Points() {
		for _, state := range []string{"", "1", "1 2 3", "wider", "wider 1 2", "1 2 3 4 5 6 7 8 9"} {
			refused(t, g, point, numbers(state), api.ErrArg)
		}
		for _, state := range []string{"wider 1", "1 wider", "-wider wide", "wider wider"} {
			refused(t, g, point, numbers(state), api.ErrTooBig)
		}
		for _, state := range []string{"wide 1", "1 -wide", "-wide wide"} {
			put(t, g, point, numbers(state))
		}
	}
	refused(t, graphed(t, "vars;"), 0, numbers("0"), api.ErrArg)
	refused(t, graphed(t, "vars;"), 1, nil, api.ErrPoint)
	machine.Begin(&graph.Graph{}, nil) // R1: they end, whatever they answer
	machine.Run(&graph.Graph{}, nil, 9)
	machine.From(&graph.Graph{}, 0, nil, nil)
}

func TestStateByValue(t *testing.T) { // R5: limbs 0 on top and a sign of 0 turn nothing
	g := graphed(t, "vars x, y; if x = 0 { y := y + 1; } else { stop; } y := y * y;")
	zeros := make([]uint32, api.MaxWide+5)
	long := append([]uint32{0, 5}, zeros...)
	m := put(t, g, 0, []api.Whole{{Neg: true, Mag: zeros}, {Neg: true, Mag: long}})
	stands(t, m, "point 0 steps 0 used 0 go state 0 -21474836480")
	m.Go(9)
	stands(t, m, "point 6 steps 4 used 0 end state 0 461168601799789117441")
}
