package graph_test

import (
	"math"
	"slices"
	"strconv"
	"strings"
	"testing"

	"rafter/api"
	"rafter/graph"
	"rafter/lang"
)

// reckonRefused fails the test if Reckon does not answer this error, and nothing beside it.
func reckonRefused(t *testing.T, g *graph.Graph, edge int, state []api.Whole, want api.Errno) {
	t.Helper()
	if x, y, e := g.Reckon(edge, state); e != want || x.Neg || y.Neg || len(x.Mag)+len(y.Mag) > 0 {
		t.Fatalf("P10.3, R2: Reckon(%d): %v, %v, %v; want %v", edge, x, y, e, want)
	}
}

// reckoned fails the test if Reckon does not answer these two numbers.
func reckoned(t *testing.T, g *graph.Graph, edge int, state []api.Whole, want string) {
	t.Helper()
	if x, y, e := g.Reckon(edge, state); e != api.OK || say(x, y) != want || !oneForm(x) || !oneForm(y) {
		t.Fatalf("P10.3: Reckon(%d) at %.100s: %.100s, %v; want %.100s", edge, say(state...), say(x, y), e, want)
	}
}

func TestReckon(t *testing.T) { // P10.3
	g := graphed(t, "vars x = 2, y; x := any; x := x / y; if x = y + 1 { } y := x * x - y; while x*y != 7 % x { skip; }")
	reckoned(t, g, 1, wides("-7 2"), "-4 0")
	reckoned(t, g, 2, wides("-7 2"), "-7 3")
	reckoned(t, g, 3, wides("-7 2"), "-7 3")
	reckoned(t, g, 6, wides("-7 2"), "47 0")
	reckoned(t, g, 8, wides("-7 2"), "-14 0")
	reckoned(t, g, 11, wides("4 -2"), "-8 3")
	reckonRefused(t, g, 1, wides("1 0"), api.ErrDivide)
	reckonRefused(t, g, 8, wides("0 0"), api.ErrDivide) // the left side has a value
	reckonRefused(t, g, 6, wides("wide 0"), api.ErrTooBig)
	reckonRefused(t, g, 2, wides("1 wide"), api.ErrTooBig)
	reckonRefused(t, g, 2, wides("wider 1"), api.ErrTooBig)
}

func TestReckonRefused(t *testing.T) { // P10.3
	g := graphed(t, "vars x, y; x := x + 1; x := any; skip; choose { } or { } x := x / y; if x = y { }")
	hard := []int{7, 8, 9}
	for i := range g.Edges() {
		if slices.Contains(hard, i) {
			continue
		}
		reckonRefused(t, g, i, wides("1 2"), api.ErrArg)
	}
	for _, i := range []int{-1, len(g.Edges()), len(g.Edges()) + 1, math.MaxInt, math.MinInt, -8} {
		reckonRefused(t, g, i, wides("1 2"), api.ErrArg)
	}
	for _, i := range hard {
		for _, state := range []string{"", "1", "1 0 3", "wider", "wider 0 0", "1 2 3 4 5 6 7 8 9"} {
			reckonRefused(t, g, i, wides(state), api.ErrArg) // ahead of what the values would be
		}
		reckonRefused(t, g, i, nil, api.ErrArg)
	}
	reckonRefused(t, graphed(t, "vars;"), 0, nil, api.ErrArg)
	none := graphed(t, "vars; if 7 / 2 != 0 - 5 { } if 1 / 0 = 1 { }")
	for _, state := range [][]api.Whole{nil, {}, make([]api.Whole, 0, 3)} {
		reckoned(t, none, 0, state, "3 -5")
		reckonRefused(t, none, 4, state, api.ErrDivide)
	}
	reckonRefused(t, none, 0, wides("1"), api.ErrArg)
}

func TestLeftAheadOfRight(t *testing.T) { // P10.3
	for cond, want := range map[string]api.Errno{
		"1 / x = y * y": api.ErrDivide, "y * y = 1 / x": api.ErrTooBig, "1 / x = 1 % x": api.ErrDivide, "x = y * y": api.ErrTooBig, "y = 1 / x": api.ErrDivide, "y * y - 1 / x = 3": api.ErrTooBig, "1 / x - y * y != 3": api.ErrDivide, "y + 1 != 3": api.ErrTooBig, "y != y - 1 - 0 * (1 / x)": api.ErrDivide, "-(y + 1) = x": api.ErrTooBig,
	} {
		for _, word := range []string{"if", "while"} {
			g := graphed(t, "vars x, y;"+word+" "+cond+" { }")
			for i, e := range g.Edges() {
				if e.Kind == api.EdgeTest {
					reckonRefused(t, g, i, wides("0 wide"), want)
				}
			}
		}
	}
	g := graphed(t, "vars x, y, z; if x = y { }")
	reckoned(t, g, 0, wides("1 -2 wider"), "1 -2") // of what is no part nothing is asked
	reckoned(t, g, 0, wides("wide 2 wider"), say(wides("wide 2")...))
}

func TestDrawnReckon(t *testing.T) { // P10.3: held against lang.Value of the texts
	s := &stream{2}
	met := map[api.Errno]int{}
	for n := range 3000 {
		p := s.program(3, n%4)
		names := plainNames(p)
		text := s.lay(p, names, false)
		m := modelOf(p, names)
		if len(text) > api.MaxText || m.points > api.MaxPoints || m.long {
			continue
		}
		g := graphed(t, text)
		for i := range m.edges {
			met[sameValues(t, text, g, m, i, s.state(len(names.vars)))]++
		}
	}
	if met[api.OK] < 1000 || met[api.ErrDivide] < 50 || met[api.ErrTooBig] < 50 || met[api.ErrArg] < 1000 {
		t.Errorf("too few of a kind were drawn: %v", met)
	}
}

// sameValues fails the test if Reckon of an edge does not answer the values of its sides, and answers the error.
func sameValues(t *testing.T, text string, g *graph.Graph, m *model, edge int, state []api.Whole) api.Errno {
	t.Helper()
	values := make([]api.Whole, 2)
	for i, side := range m.sides[edge] {
		v, e := lang.Value(side, m.vars, state)
		if e != api.OK {
			reckonRefused(t, g, edge, state, e)
			return e
		}
		values[i] = v
	}
	if len(m.sides[edge]) == 0 {
		reckonRefused(t, g, edge, state, api.ErrArg)
		return api.ErrArg
	}
	x, y, e := g.Reckon(edge, state)
	if e != api.OK || say(x, y) != say(values...) || !oneForm(x) || !oneForm(y) {
		t.Fatalf("P10.3: %q: Reckon(%d) = %s, %v; want %s", text, edge, say(x, y), e, say(values...))
	}
	return api.OK
}

func TestLongExpressions(t *testing.T) { // P10.1, P10.3: as they are printed these are longer than a text may be
	const ones = (api.MaxText - 50) / 2
	number := func(n int) string { return strconv.Itoa(n) }
	for _, c := range []struct{ text, state, want string }{
		{"vars x; x := x*x" + strings.Repeat("+1", ones) + ";", "3", number(9+ones) + " 0"},
		{"vars x; x := x/2" + strings.Repeat("*1", ones) + ";", "-7", "-4 0"},
		{"vars x; if x" + strings.Repeat("+x", ones/2) + "=x*x" + strings.Repeat("-1", ones/2) + "{}", "2", number(2+ones/2*2) + " " + number(4-ones/2)},
		{"vars x; x := " + strings.Repeat("-", api.MaxText-30) + "(x%5);", "-7", "3 0"},
	} {
		reckoned(t, graphed(t, c.text), 0, wides(c.state), c.want)
	}
	g := graphed(t, "vars x; x := x"+strings.Repeat("+1", ones)+";")
	if e := g.Edges()[0]; e.Kind != api.EdgeSet || say(e.Row...) != "1 "+number(ones) {
		t.Errorf("P10.1: a long sum: %s", shown(e))
	}
	g = graphed(t, "vars x; while x"+strings.Repeat("+1", ones)+"!=0{}")
	if e := g.Edges()[1]; e.Kind != api.EdgeTest || say(e.Row...) != "1 "+number(-ones) {
		t.Errorf("P10.1: a long condition: %s", shown(e))
	}
}
