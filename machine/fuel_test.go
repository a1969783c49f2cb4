package machine_test

import (
	"fmt"
	"math"
	"strings"
	"testing"

	"rafter/api"
)

func TestFuel(t *testing.T) { // P11.4: fewer than fuel by each call; none, if it is below 1
	g := graphed(t, "vars x = 0; while 1 = 1 { x := x + 1; }")
	m := begun(t, g)
	for _, fuel := range []int{0, -1, -7, math.MinInt, math.MinInt + 1} {
		if made := m.Go(fuel); made != 0 {
			t.Errorf("P11.4: Go(%d) made %d steps", fuel, made)
		}
		if got, want := shown(ran(t, g, nil, fuel)), shown(begun(t, g).Tell()); got != want {
			t.Errorf("P11.5: fuel %d: %s; want %s", fuel, got, want)
		}
	}
	steps := 0
	for _, fuel := range []int{1, 2, 0, 3, -5, 1, 10} {
		if made := m.Go(fuel); made != max(fuel, 0) {
			t.Errorf("P11.4: Go(%d) made %d steps", fuel, made)
		}
		steps += max(fuel, 0)
		if s := m.Tell(); s.Steps != steps || s.Why != api.WhyGo {
			t.Errorf("P11.4: %s; want %d steps", shown(s), steps)
		}
	}
}

func TestMostFuel(t *testing.T) { // P11.4: fewer than MaxFuel by a machine, that of From, too
	g := graphed(t, "vars x = 0; while 1 = 1 { x := x + 1; }") // three steps a round, behind the first one
	const rounds, want = (api.MaxFuel - 1) / 3, "point 1 steps 65536 used 0 go state 21845"
	if 3*rounds+1 != api.MaxFuel {
		t.Fatal("the rounds do not come out")
	}
	for _, fuel := range []int{api.MaxFuel, api.MaxFuel + 1, math.MaxInt, 1 << 40} {
		if got := shown(ran(t, g, nil, fuel)); got != want {
			t.Errorf("P11.4: fuel %d: %s; want %s", fuel, got, want)
		}
	}
	if got := shown(ran(t, g, nil, api.MaxFuel-1)); got != "point 3 steps 65535 used 0 go state 21845" {
		t.Errorf("P11.4: one less than MaxFuel: %s", got)
	}
	m := begun(t, g)
	if a, b, c, d := m.Go(api.MaxFuel-3), m.Go(2), m.Go(math.MaxInt), m.Go(math.MaxInt); a != api.MaxFuel-3 || b != 2 || c != 1 || d != 0 {
		t.Errorf("P11.4: Go made %d, %d, %d, %d steps", a, b, c, d)
	}
	stands(t, m, want)
	s := m.Tell()
	n := put(t, g, s.Point, s.State)
	if a, b := n.Go(math.MaxInt), n.Go(1); a != api.MaxFuel || b != 0 {
		t.Errorf("P11.4: From's machine made %d, %d steps", a, b)
	}
	stands(t, n, "point 2 steps 65536 used 0 go state 43690")
	stands(t, m, want)
}

func TestReasonAtMostFuel(t *testing.T) { // P11.4: behind the last step Why is what it would be without a bound
	ahead := func(skips int) string { // 65528 steps, and the skips
		return "while x != 21842 { x := x + 1; } " + strings.Repeat("skip; ", skips)
	}
	for _, c := range []struct{ text, want string }{
		{"while x != 21845 { x := x + 1; }", "point 1 steps 65536 used 0 go state 21845"},
		{"while 1 / (21845 - x) != 7 { x := x + 1; }", "point 1 steps 65536 used 0 stuck 20 state 21845"},
		{ahead(7) + "x := any;", "point 11 steps 65535 used 0 wait state 21842"},
		{ahead(8) + "x := any;", "point 12 steps 65536 used 0 wait state 21842"},
		{ahead(9) + "x := any;", "point 12 steps 65536 used 0 go state 21842"},
		{ahead(7) + "stop;", "point 11 steps 65535 used 0 end state 21842"},
		{ahead(8), "point 12 steps 65536 used 0 end state 21842"},
		{ahead(9), "point 12 steps 65536 used 0 go state 21842"},
	} {
		if got := shown(ran(t, graphed(t, "vars x = 0; "+c.text), nil, math.MaxInt)); got != c.want {
			t.Errorf("P11.4: %s: %s; want %s", c.text, got, c.want)
		}
	}
}

func TestMostChoices(t *testing.T) { // P11.2, P11.4: however many are used, none is forgotten
	const anys = api.MaxPoints - 4
	const rounds, rest = (api.MaxFuel - 1) / (anys + 2), (api.MaxFuel - 1) % (anys + 2)
	const used = api.MaxVars + rounds*(anys+1) + rest
	if rest != 1 {
		t.Fatal("the last step is to be one into the loop")
	}
	g := graphed(t, "vars a, b, c, d, e, f, g, h; loop { "+strings.Repeat("h := any; ", anys)+"}")
	choices := make([]int, 4*api.MaxFuel)
	for i := range choices {
		choices[i] = 2*i + 1 // so that each pick leads into the loop
	}
	state := "1 3 5 7 9 11 13 " + fmt.Sprint(2*(used-2)+1)
	for _, c := range []struct {
		count int
		why   string
	}{{used, "wait"}, {used + 1, "go"}, {len(choices), "go"}, {api.MaxFuel, "go"}} {
		want := fmt.Sprintf("point 2 steps %d used %d %s state %s", api.MaxFuel, used, c.why, state)
		if got := shown(ran(t, g, choices[:c.count], math.MaxInt)); got != want {
			t.Errorf("P11.4: of %d choices: %s; want %s", c.count, got, want)
		}
	}
	if got := ran(t, g, choices[:used-1], math.MaxInt); got.Steps != api.MaxFuel-1 || got.Why != api.WhyWait || got.Point != 1 {
		t.Errorf("P11.4: of one choice less: %s", shown(got))
	}
}

func TestRunIsBeginGoTell(t *testing.T) { // P11.5
	g := graphed(t, "vars x, y = 2; loop { x := x * y; choose { y := any; } or { stop; } or { } }")
	s := &stream{4}
	for range 500 {
		choices, fuel := s.choices(s.below(30)), s.below(60)-5
		m := begun(t, g, choices...)
		made := m.Go(fuel)
		told := m.Tell()
		if run := ran(t, g, choices, fuel); shown(run) != shown(told) || made != told.Steps {
			t.Fatalf("P11.5: with %v, %d: %s; %s, %d made", choices, fuel, shown(run), shown(told), made)
		}
	}
}
