package machine_test

import (
	"math"
	"math/big"
	"strings"
	"testing"

	"rafter/api"
)

func TestExamples(t *testing.T) { // P11.2 to P11.5: the chapter's, and the document's
	doubled, divided := "vars x = 5; loop { x := 2 * x; }", "vars x, y; x := x / y;"
	rising, halving := "vars x = 0, y = 1; loop { x := x + 1; y := y + 2; } mark out;", "vars x, y; loop { x := x / y; }"
	for _, c := range []struct {
		text    string
		choices []int
		fuel    int
		want    string
	}{
		{doubled, nil, 9, "point 1 steps 1 used 0 wait state 5"},
		{doubled, []int{1, 3, -2}, 99, "point 4 steps 8 used 3 end state 20"},
		{doubled, []int{1, 1}, 3, "point 3 steps 3 used 1 go state 10"},
		{divided, []int{7, 2}, 9, "point 1 steps 1 used 2 end state 3 2"},
		{divided, []int{7}, 9, "point 0 steps 0 used 1 stuck 20 state 7 0"},
		{rising, []int{1, 1, 0}, 9, "point 1 steps 9 used 2 go state 2 5"},
		{rising, nil, 2, "point 1 steps 1 used 0 wait state 0 1"},
		{rising, []int{0}, 2, "point 5 steps 2 used 1 end state 0 1"},
		{"vars α₁, β ; β ≔ any; choose { α₁ ≔ β; } or { α₁ ≔ 3·β − 2; }", []int{0, 0, 0, 1}, 4, "point 6 steps 4 used 4 end state -2 0"},
		{"vars x = 5, y = 2; if x = 1 { x := 7; } y := x * y; mark out;", nil, 9, "point 5 steps 3 used 0 end state 5 10"},
		{halving, []int{7, 2, 1, 1, 0}, 9, "point 4 steps 8 used 5 end state 1 2"},
		{halving, []int{7, 0, 1, 1}, 9, "point 2 steps 2 used 3 stuck 20 state 7 0"},
		{halving, []int{7, 2, 1}, 2, "point 2 steps 2 used 3 go state 7 2"},
		{halving, []int{7}, 9, "point 1 steps 1 used 1 wait state 7 0"},
	} {
		if got := shown(ran(t, graphed(t, c.text), c.choices, c.fuel)); got != c.want {
			t.Errorf("P11.5: Run of %s with %v, %d: %s; want %s", c.text, c.choices, c.fuel, got, c.want)
		}
	}
}

func TestKindsOfSteps(t *testing.T) { // P11.2, P11.3: one step along each kind of edge
	for _, c := range []struct {
		text, state string
		choices     []int
		made        int
		want        string
	}{
		{"vars x; skip;", "4", []int{9}, 1, "point 1 steps 1 used 0 end state 4"},
		{"vars x; stop;", "4", []int{9}, 0, "point 0 steps 0 used 0 end state 4"},
		{"vars x; stop; skip;", "4", []int{9}, 0, "point 0 steps 0 used 0 end state 4"},
		{"vars x, y; y := 2*x - 3*y + 5;", "4 6", []int{9}, 1, "point 1 steps 1 used 0 end state 4 -5"},
		{"vars x, y; x := y;", "4 -6", []int{9}, 1, "point 1 steps 1 used 0 end state -6 -6"},
		{"vars x, y; x := 0;", "4 -6", []int{9}, 1, "point 1 steps 1 used 0 end state 0 -6"},
		{"vars x, y; y := any;", "4 6", []int{-9, 1}, 1, "point 1 steps 1 used 1 end state 4 -9"},
		{"vars x, y; y := any;", "4 6", nil, 0, "point 0 steps 0 used 0 wait state 4 6"},
		{"vars x; x := any;", "4", []int{math.MinInt}, 1, "point 1 steps 1 used 1 end state -9223372036854775808"},
		{"vars x; x := any;", "4", []int{math.MaxInt}, 1, "point 1 steps 1 used 1 end state 9223372036854775807"},
		{"vars x; x := any;", "4", []int{0}, 1, "point 1 steps 1 used 1 end state 0"},
		{"vars x, y; y := x * y;", "4 -6", []int{9}, 1, "point 1 steps 1 used 0 end state 4 -24"},
		{"vars x, y; x := x / y;", "-7 2", []int{9}, 1, "point 1 steps 1 used 0 end state -4 2"},
		{"vars x, y; x := x % y;", "-7 -2", []int{9}, 1, "point 1 steps 1 used 0 end state 1 -2"},
		{"vars x, y; x := x % y;", "-7 0", []int{9}, 0, "point 0 steps 0 used 0 stuck 20 state -7 0"},
		{"vars x, y; if x = y { skip; } else { stop; }", "3 3", []int{9}, 3, "point 5 steps 3 used 0 end state 3 3"},
		{"vars x, y; if x = y { skip; } else { stop; }", "3 -3", []int{9}, 1, "point 3 steps 1 used 0 end state 3 -3"},
		{"vars x, y; if x != y { skip; } else { stop; }", "3 -3", []int{9}, 3, "point 5 steps 3 used 0 end state 3 -3"},
		{"vars x, y; if x != y { skip; } else { stop; }", "3 3", []int{9}, 1, "point 3 steps 1 used 0 end state 3 3"},
		{"vars x, y; if x / y = 1 { } else { }", "3 0", []int{9}, 0, "point 0 steps 0 used 0 stuck 20 state 3 0"},
		{"vars x, y; if x = 1 / y { } else { }", "3 0", []int{9}, 0, "point 0 steps 0 used 0 stuck 20 state 3 0"},
		{"vars x, y; if 0 * (x / y) = 0 { } else { }", "3 0", []int{9}, 0, "point 0 steps 0 used 0 stuck 20 state 3 0"},
		{"vars x, y; while x != y { x := x - 1; }", "5 3", []int{9}, 8, "point 4 steps 8 used 0 end state 3 3"},
		{"vars x, y; while x = y { x := x - 1; }", "5 3", []int{9}, 2, "point 4 steps 2 used 0 end state 5 3"},
	} {
		m := put(t, graphed(t, c.text), 0, numbers(c.state), c.choices...)
		if made := m.Go(99); made != c.made {
			t.Errorf("P11.4: %s: Go made %d steps", c.text, made)
		}
		stands(t, m, c.want)
	}
}

func TestPicks(t *testing.T) { // P11.2: modulo Many, of a choice below 0, too
	const k = (api.MaxPoints - 2) / 2 // each block makes two points
	for _, many := range []int{1, 2, 3, 5, 7, k} {
		text := "vars x = -1; choose { x := 0; }"
		for i := 1; i < many; i++ {
			text += " or { x := " + big.NewInt(int64(i)).String() + "; }"
		}
		g := graphed(t, text)
		for _, c := range []int{0, 1, 2, -1, -2, many - 1, many, many + 1, -many, 1 - many, -1 - many, 1000, -1000, math.MaxInt, math.MinInt, math.MaxInt - 1, math.MinInt + 1} {
			want := new(big.Int).Mod(big.NewInt(int64(c)), big.NewInt(int64(many)))
			s := ran(t, g, []int{c, 77}, 99)
			if say(s.State...) != want.String() || s.Used != 1 || s.Steps != 3 || s.Point != g.Exit() || s.Why != api.WhyEnd {
				t.Errorf("P11.2: the choice %d of %d: %s, want %v", c, many, shown(s), want)
			}
		}
		if got := shown(ran(t, g, nil, 99)); got != "point 0 steps 0 used 0 wait state -1" {
			t.Errorf("P11.3: a choice of %d: %s", many, got)
		}
	}
}

func TestEachUsesOne(t *testing.T) { // P11.2: an EdgePick and an EdgeAny use one choice each, nothing else does
	g := graphed(t, "vars a, b = 2; a := a + 1; choose { skip; } or { b := any; a := any; } if a = b { a := a * b; } loop { b := any; } a := any;")
	for used, want := range []string{
		"point 1 steps 1 used 0 wait state 1 2",
		"point 1 steps 1 used 1 wait state 6 2",
		"point 4 steps 2 used 2 wait state 6 2",
		"point 5 steps 3 used 3 wait state 6 4",
		"point 12 steps 9 used 4 wait state 16 4",
		"point 13 steps 10 used 5 wait state 16 4",
		"point 12 steps 12 used 6 wait state 16 -8",
		"point 15 steps 13 used 7 wait state 16 -8",
		"point 16 steps 14 used 8 end state 11 -8",
		"point 16 steps 14 used 8 end state 11 -8",
	} {
		choices := []int{5, 3, 4, 4, 1, -8, 0, 11, 9, 9}[:used]
		if got := shown(ran(t, g, choices, 99)); got != want {
			t.Errorf("P11.2: with %v: %s; want %s", choices, got, want)
		}
	}
}

func TestWidth(t *testing.T) { // P11.3: MaxWide limbs are well, one more is not
	for _, c := range []struct {
		text, state, want string // want: the state behind the step, or "big"
	}{
		{"x := x + 1", "wide 0", "big"},
		{"x := x - 1", "-wide 0", "big"},
		{"x := x - 1", "wide 0", ""},
		{"x := y + 1", "3 wide", "big"},
		{"x := -x", "wide 0", "-wide 0"},
		{"x := x", "-wide 0", "-wide 0"},
		{"x := y", "1 wide", "wide wide"},
		{"x := 2 * x", "half 0", "big"},
		{"x := x + x", "-half 0", "big"},
		{"x := 2 * x - 1", "half 0", "wide 0"},
		{"x := 1 - 2 * x", "half 0", "-wide 0"},
		{"x := x + y", "half half", "big"},
		{"x := x - y", "half half", "0 half"},
		{"x := x - y", "half -half", "big"},
		{"x := " + most + " * y", "7 wide", "big"},
		{"x := (x + x) - x", "wide 0", "wide 0"},                      // an EdgeSet is not reckoned part by part
		{"x := " + most + " * (x - y) + y", "wide wide", "wide wide"}, // nor asked for what is added on the way
		{"x := 4 * x - 4 * x + y", "wide 1", "1 1"},
		{"x := (x + x) - x + 0 * (x / 1)", "wide 0", "big"}, // an EdgeHard is
		{"x := x * 1 / 1", "wide 0", "wide 0"},
		{"x := x * x / x", "half 0", "big"},
		{"x := x * y", "wide 1", "wide 1"},
		{"x := x * y", "half 2", "big"},
		{"x := x * y", "1 wide", "wide wide"},
		{"if x + x = x + x { }", "wide 0", "big"}, // so are the two sides of a condition
		{"if x = x + 1 { }", "wide 0", "big"},
		{"if x + 1 = x { }", "wide 0", "big"},
		{"if x + 1 - 1 != x { }", "wide 0", "big"},
		{"if x = x { }", "-wide 0", "-wide 0"},
		{"if y = 1 { }", "-wide 0", "-wide 0"},
		{"if x * y - 1 / 0 = 1 { }", "wide 2", "big"}, // the left one ahead of the right one
	} {
		end := ";"
		if strings.HasSuffix(c.text, "}") {
			end = ""
		}
		m := put(t, graphed(t, "vars x, y; "+c.text+end), 0, numbers(c.state))
		made, s := m.Go(1), m.Tell()
		switch {
		case c.want == "big":
			if made != 0 || s.Why != api.WhyStuck || s.Code != api.ErrTooBig || s.Steps != 0 || s.Point != 0 || say(s.State...) != say(numbers(c.state)...) {
				t.Errorf("P11.3: %.60s at %s: made %d, %.100s", c.text, c.state, made, shown(s))
			}
		case made != 1 || s.Code != api.OK || s.Why == api.WhyStuck || c.want != "" && say(s.State...) != say(numbers(c.want)...):
			t.Errorf("P11.2: %.60s at %s: made %d, %.100s", c.text, c.state, made, shown(s))
		}
	}
}

func TestStuckInTime(t *testing.T) { // P11.3: a number that grows step by step
	g := graphed(t, "vars x = 1; loop { x := 4294967296 * x; }")
	choices := make([]int, 2*api.MaxWide)
	for i := range choices {
		choices[i] = 1
	}
	s := ran(t, g, choices, api.MaxFuel)
	if s.Why != api.WhyStuck || s.Code != api.ErrTooBig || s.Point != 2 || s.Used != api.MaxWide || s.Steps != 3*(api.MaxWide-1)+2 || toBig(s.State[0]).Cmp(power(32*(api.MaxWide-1), 0)) != 0 {
		t.Errorf("P11.3: %.200s", shown(s))
	}
	m := begun(t, g, choices...)
	m.Go(api.MaxFuel)
	for range 3 {
		if m.Go(5) != 0 || shown(m.Tell()) != shown(s) {
			t.Errorf("P11.3: what is stuck does not stay so: %.200s", shown(m.Tell()))
		}
	}
}

func TestReasons(t *testing.T) { // P11.4: Code beside WhyStuck alone, and what can't be made is told ahead of the fuel
	g := graphed(t, "vars x = 0; skip; x := 1 / x;")
	for fuel, want := range []string{"point 0 steps 0 used 0 go state 0", "point 1 steps 1 used 0 stuck 20 state 0", "point 1 steps 1 used 0 stuck 20 state 0"} {
		if got := shown(ran(t, g, nil, fuel)); got != want {
			t.Errorf("P11.4: fuel %d: %s; want %s", fuel, got, want)
		}
	}
	for text, want := range map[string]string{
		"vars;":                         "point 0 steps 0 used 0 end state ",
		"vars x; x := any;":             "point 0 steps 0 used 0 wait state 0",
		"vars; choose { }":              "point 0 steps 0 used 0 wait state ",
		"vars x; x := 1 / x;":           "point 0 steps 0 used 0 stuck 20 state 0",
		"vars x; if 1 % x = 1 { }":      "point 0 steps 0 used 0 stuck 20 state 0",
		"vars x; while 1 % x = 1 { }":   "point 0 steps 0 used 0 go state 0",
		"vars x; if x = 1 { } skip;":    "point 0 steps 0 used 0 go state 0",
		"vars x = 1; x := x / x;":       "point 0 steps 0 used 0 go state 1",
		"vars x = 1; stop; x := 1 / 0;": "point 0 steps 0 used 0 end state 1",
	} {
		for _, fuel := range []int{0, -1, math.MinInt} {
			if got := shown(ran(t, graphed(t, text), nil, fuel)); got != want {
				t.Errorf("P11.4: %s: %s; want %s", text, got, want)
			}
		}
	}
}
