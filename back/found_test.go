package back_test

import (
	"math"
	"strings"
	"testing"

	"rafter/api"
	"rafter/back"
	"rafter/graph"
	"rafter/sketch"
)

// loop is the program of the chapter's examples: points 0, 1 (the head), 2, 3, 4 (the block's end), 5 (the Exit).
const loop = "vars x, y; loop { x := x + 1; y := y + 2; }"

func TestFind(t *testing.T) { // P16.1, P16.2, P16.4: the rows at each point, `|` between two points
	for _, x := range []struct {
		text   string
		point  int
		row    string
		want   string
		looks  int
		always bool
	}{
		// The chapter's examples.
		{loop, 5, "2 -1 0", "2 -1 0|2 -1 0|2 -1 0|2 -1 2|2 -1 0|2 -1 0", 6, false},
		{loop, 5, "1 0 3", "0 0 1|0 0 1|0 0 1|0 0 1|0 0 1|1 0 3", 11, false},
		{loop, 5, "0 0 0", "|||||", 0, true},
		{"vars x = 1, y; y := 3 * x;", 1, "0 1 3", "1 0 1|0 1 3", 1, true},
		{"vars x; x := any;", 1, "1 2", "0 1|1 2", 1, false},
		// The row in another form; others of the same kind.
		{loop, 5, "-4 2 0", "2 -1 0|2 -1 0|2 -1 0|2 -1 2|2 -1 0|2 -1 0", 6, false},
		{loop, 5, "6 -3 12", "2 -1 4|2 -1 4|2 -1 4|2 -1 6|2 -1 4|2 -1 4", 6, false},
		{loop, 1, "2 -1 0", "2 -1 0|2 -1 0|2 -1 0|2 -1 2|2 -1 0|", 5, false},
		{loop, 3, "1 0 3", "0 0 1|0 0 1|0 0 1|0 0 1|0 0 1|", 10, false},
		{loop, 0, "1 0 3", "1 0 3|||||", 0, false},
		{loop, 5, "0 0 -7", "0 0 1|0 0 1|0 0 1|0 0 1|0 0 1|0 0 1", 6, false},
		// What begins with a number has it, the others any.
		{"vars x = 2, y; y := 3 * x;", 1, "0 1 3", "1 0 1|0 1 3", 1, false},
		{"vars x = 2, y;", 0, "1 0 2", "1 0 2", 0, true},
		{"vars x = 2, y;", 0, "0 1 0", "0 1 0", 0, false},
		{"vars x = 2, y;", 0, "1 1 2", "1 1 2", 0, false},
		{"vars x = 2, y; y := x - 1;", 1, "1 1 3", "1 0 2|1 1 3", 1, true},
		{"vars x, y; x := x - x; y := x;", 2, "1 1 0", "|1 0 0|1 1 0", 2, true},
		// Any number, and what no form tells.
		{"vars x; x := any;", 1, "0 0", "|", 0, true},
		{"vars x, y; x := any;", 1, "0 1 2", "0 1 2|0 1 2", 1, false},
		{"vars x, y; x := any;", 1, "3 1 2", "0 0 1|3 1 2", 1, false},
		{"vars x = 5, y = 5; x := any; y := x;", 2, "1 -1 0", "||1 -1 0", 1, true},
		{"vars x, y; x := x * y;", 1, "0 1 2", "0 1 2|0 1 2", 1, false},
		{"vars x, y; x := x * y;", 1, "1 0 0", "0 0 1|1 0 0", 1, false},
		{"vars x = 0, y = 0; x := x * y;", 1, "1 0 0", "0 0 1|1 0 0", 1, false},
		// Conditions are not asked.
		{"vars x; if x = 1 { x := 5; }", 4, "1 5", "1 5||1 5|1 5|1 5", 4, false},
		{"vars x; if x = 1 { x := 5; }", 2, "1 5", "||1 5||", 1, true},
		{"vars x; while x != 5 { x := x + 1; }", 4, "1 5", "0 1|0 1|0 1|0 1|1 5", 9, false},
		// Where no way leads there, nothing is needed; behind the point, neither.
		{"vars x; stop; x := 1;", 2, "1 7", "|0 1|1 7", 1, true},
		{"vars x; stop; x := 1;", 1, "1 7", "|1 7|", 0, true},
		{"vars x; skip; skip;", 1, "1 7", "1 7|1 7|", 1, false},
		// Ways that part and meet.
		{"vars x, y; choose { x := y; } or { x := 3 * y - 2; }", 5, "1 -1 0", "0 1 1||1 -1 0|0 1 1|1 -1 0|1 -1 0", 5, false},
		{"vars x, y; choose { x := 2 * x; } or { y := 3 * y; }", 5, "1 1 0", "1 0 0; 0 1 0|2 1 0|1 1 0|1 3 0|1 1 0|1 1 0", 6, false},
		{"vars x = 0, y = 0; choose { x := 2 * x; } or { y := 3 * y; }", 5, "1 1 0", "1 0 0; 0 1 0|2 1 0|1 1 0|1 3 0|1 1 0|1 1 0", 6, true},
		// A divisor that is had in common; signs.
		{"vars x, y; x := 2 * x + 4;", 1, "1 2 6", "1 1 1|1 2 6", 1, false},
		{"vars x, y; x := -x;", 1, "1 2 6", "1 -2 -6|1 2 6", 1, false},
		{"vars x, y; x := y - x; y := x;", 2, "1 1 6", "1 -1 -3|1 0 3|1 1 6", 2, false},
		// Without a variable.
		{"vars; loop { }", 3, "0", "|||", 0, true},
		{"vars; loop { }", 3, "-5", "1|1|1|1", 4, false},
		{"vars; stop;", 1, "1", "|1", 0, true},
		// Long numbers, at the limit.
		{"vars x = M; x := x - 1;", 1, "1 K", "1 " + power(32*api.MaxLimbs-32, 1).String() + "|1 K", 1, false},
		{"vars x, y; y := M * x;", 1, "0 1 0", "1 0 0|0 1 0", 1, false},
		{"vars x, y; y := M * x + 1;", 1, "0 1 0", "M 0 -1|0 1 0", 1, false},
	} {
		g := graphed(t, x.text)
		n, _ := like(t, x.text, g, x.point, numbers(x.row))
		if n == nil {
			t.Errorf("P16.3: %s, %s: too big", x.text, x.row)
			continue
		}
		for p, want := range strings.Split(x.want, "|") {
			if got := sayRows(n.Rows(p)); got != sayRowsOf(want) {
				t.Errorf("P16.4: %s, %s: at %d %s; want %s", x.text, x.row, p, got, want)
			}
		}
		if n.Looks() != x.looks || n.Always() != x.always {
			t.Errorf("P16.4: %s, %s: %d looks, always %v; want %d, %v", x.text, x.row, n.Looks(), n.Always(), x.looks, x.always)
		}
	}
}

func TestMet(t *testing.T) { // P16.4
	n := found(t, graphed(t, loop), 5, numbers("2 -1 0"))
	for _, x := range []struct {
		point int
		state string
		want  bool
	}{
		{0, "1 2", true}, {1, "1 2", true}, {1, "0 0", true}, {1, "1 1", false}, {1, "-3 -6", true}, {3, "1 2", false}, {3, "2 2", true}, {5, "K K", false}, {4, "0 1", false},
	} {
		if got := met(t, n, x.point, numbers(x.state)); got != x.want {
			t.Errorf("P16.4: %s at %d: %v", x.state, x.point, got)
		}
	}
	long := found(t, graphed(t, "vars x, y; y := y - M;"), 1, numbers("1 -1 M"))
	for state, want := range map[string]bool{"0 0": true, "P P": true, "-M -M": true, "P M": false, "M M": true, "1 0": false} {
		if got := met(t, long, 0, numbers(state)); got != want {
			t.Errorf("P16.4: %s: %v", state, got)
		}
	}
	for row, want := range map[string]bool{"0": true, "3": false} {
		if got := met(t, found(t, graphed(t, "vars;"), 0, numbers(row)), 0, nil); got != want {
			t.Errorf("P16.4: 0 = %s: %v", row, got)
		}
	}
	nowhere := found(t, graphed(t, loop), 5, numbers("1 0 3"))
	for _, state := range []string{"0 0", "3 0", "2 0"} {
		if met(t, nowhere, 1, numbers(state)) || met(t, nowhere, 5, numbers(state)) != (state == "3 0") {
			t.Errorf("P16.4: %s", state)
		}
	}
}

func TestMetIsAllRows(t *testing.T) { // P16.4: just where all rows are met, by states that are drawn and such as meet them
	s := &stream{2}
	count := map[bool]int{}
	held(t, s, 150, func(text string, point int, row []api.Whole, n *back.Need, m *model) {
		for p := range m.needs {
			for _, state := range s.states(n, p, m.n) {
				want := m.broken(p, bigs(state)) < 0
				for _, r := range n.Rows(p) {
					if want && !meets(state, r) {
						t.Fatalf("P16.4: %q, %s at %d: %s meets all needs at %d, but not %s", text, say(row), point, say(state), p, say(r))
					}
				}
				if got := met(t, n, p, state); got != want {
					t.Fatalf("P16.4: %q, %s at %d: %s at %d: %v", text, say(row), point, say(state), p, got)
				}
				count[want]++
			}
		}
	})
	if count[true] < 1000 || count[false] < 1000 {
		t.Errorf("too few of a kind were drawn: %v", count)
	}
}

func TestByValue(t *testing.T) { // R5: limbs 0 on top, a sign of 0
	g := graphed(t, loop)
	two, minus := api.Whole{Mag: []uint32{2, 0, 0}}, api.Whole{Neg: true, Mag: []uint32{1, 0}}
	for _, nought := range []api.Whole{{}, {Neg: true}, {Mag: []uint32{0, 0}}, {Neg: true, Mag: []uint32{0}}} {
		n := found(t, g, 5, []api.Whole{two, minus, nought})
		if got := sayRows(n.Rows(0)); got != "2 -1 0" {
			t.Errorf("R5: %v: %s", nought, got)
		}
		if !met(t, n, 1, []api.Whole{{Mag: []uint32{1, 0}}, two}) || !met(t, n, 1, []api.Whole{nought, nought}) || met(t, n, 1, []api.Whole{nought, two}) {
			t.Errorf("R5: %v: Met", nought)
		}
		all := found(t, g, 5, []api.Whole{nought, nought, nought})
		if all.Looks() != 0 || len(all.Rows(5)) != 0 || !all.Always() {
			t.Errorf("R5: %v: %d looks", nought, all.Looks())
		}
	}
	wide := api.Whole{Mag: append(numbers("M")[0].Mag, 0, 0, 0)}
	if n, e := back.Find(g, 0, []api.Whole{wide, {}, numbers("1")[0]}); n == nil || e != api.OK {
		t.Errorf("R5: %v", e)
	}
}

// nowhere are numbers that are no point's, of a graph with so many.
func nowhere(points int) []int {
	return []int{-1, points, points + 1, math.MinInt, math.MaxInt, -points, 1 << 32, 1 << 40}
}

func TestRefused(t *testing.T) { // P16.3, R1, R2: the first of these, and nothing beside it
	long := strings.Repeat("P ", 8)
	for _, text := range []string{"vars;", "vars x;", loop, "vars a, b, c, d, e, f, g, h; a := b;"} {
		g := graphed(t, text)
		n := len(g.Vars())
		fits := numbers(long + "1")[8-n:]
		for _, x := range []struct {
			g     *graph.Graph
			point int
			row   []api.Whole
			e     api.Errno
		}{
			{nil, 0, fits, api.ErrArg}, {nil, 99, nil, api.ErrArg}, {nil, 0, nil, api.ErrArg}, {nil, -1, fits, api.ErrArg},
			{g, 0, nil, api.ErrArg}, {g, 0, fits[:n], api.ErrArg}, {g, 0, append(fits[:n+1:n+1], fits[0]), api.ErrArg}, {g, g.Exit(), make([]api.Whole, 100), api.ErrArg}, {g, 0, make([]api.Whole, n), api.ErrArg}, {g, 0, make([]api.Whole, n+2), api.ErrArg},
		} {
			if need, e := back.Find(x.g, x.point, x.row); need != nil || e != x.e {
				t.Errorf("P16.3: %s at %d: %v, %v; want %v", text, x.point, need, e, x.e)
			}
		}
		for _, p := range nowhere(g.Points()) {
			for _, row := range [][]api.Whole{fits, nil, fits[:n], make([]api.Whole, n+1)} {
				if need, e := back.Find(g, p, row); need != nil || e != api.ErrPoint {
					t.Errorf("P16.3: %s at %d: %v, %v", text, p, need, e)
				}
			}
		}
		if need, e := back.Find(g, 0, fits); n > 0 && (need != nil || e != api.ErrTooBig) {
			t.Errorf("P16.3: %s: %v, %v", text, need, e)
		}
	}
	if n, e := back.Find(&graph.Graph{}, 0, nil); n != nil || e != api.ErrPoint {
		t.Errorf("R1: of a graph without a point: %v, %v", n, e)
	}
}

func TestNoPoint(t *testing.T) { // P16.4, R1, R2: ErrPoint comes first, and nothing beside it
	for _, text := range []string{"vars;", "vars x = 3, y;", loop} {
		g := graphed(t, text)
		vars := len(g.Vars())
		n := found(t, g, g.Exit(), append(make([]api.Whole, vars), numbers("1")...))
		for _, p := range nowhere(g.Points()) {
			if len(n.Rows(p)) != 0 {
				t.Errorf("P16.4: %s at %d: %v", text, p, n.Rows(p))
			}
			if s, e := n.Span(p); s != nil || e != api.ErrPoint {
				t.Errorf("P16.4: %s at %d: %v, %v", text, p, s, e)
			}
			for _, count := range []int{0, vars, vars + 1} {
				if is, e := n.Met(p, make([]api.Whole, count)); is || e != api.ErrPoint {
					t.Errorf("P16.4: %s at %d: %v, %v", text, p, is, e)
				}
			}
		}
		for p := range g.Points() {
			for _, count := range []int{vars + 1, vars + 2, vars - 1, 50} {
				if is, e := n.Met(p, make([]api.Whole, max(count, 0))); count >= 0 && (is || e != api.ErrArg) {
					t.Errorf("P16.4: %s at %d, %d numbers: %v, %v", text, p, count, is, e)
				}
			}
		}
	}
	free := found(t, graphed(t, loop), 0, numbers("0 0 0")) // where nothing is needed, too
	if is, e := free.Met(0, nil); is || e != api.ErrArg {
		t.Errorf("P16.4: %v, %v", is, e)
	}
}

func TestMost(t *testing.T) { // P16.7: as many needs and looks as there may be
	var text strings.Builder
	text.WriteString("vars a, b, c, d, e, f, g, h; loop { ")
	for i := range api.MaxVars - 1 { // two neighbours change places
		a, b := sketch.Letters[i:i+1], sketch.Letters[i+1:i+2]
		text.WriteString(strings.NewReplacer("x", a, "y", b).Replace("choose { x := x + y; y := x - y; x := x - y; } or { } "))
	}
	text.WriteString("}")
	g := graphed(t, text.String())
	n, m := like(t, text.String(), g, g.Exit(), numbers("1 2 4 8 16 32 64 128 1"))
	if n == nil || n.Looks() != (len(g.Edges())-1)*(api.MaxVars)+1 || len(m.needs[1]) != api.MaxVars {
		t.Errorf("P16.7: %d looks, %d needs", n.Looks(), len(m.needs[1]))
	}
	counting := "vars a, b, c, d, e, f, g, h; loop { a := a + 1; choose { b := b + a; } or { c := c + b; } or { d := d + c; } or { e := e + d; } or { f := f + e; } or { g := g + f; } or { h := h + g; } }"
	g = graphed(t, counting)
	n, m = like(t, counting, g, 1, numbers("0 0 0 0 0 0 0 1 0"))
	if n == nil || len(m.needs[1]) != api.MaxVars+1 || n.Looks() != len(g.Edges()[:len(g.Edges())-1])*(api.MaxVars+1) {
		t.Errorf("P16.7: %d needs, %d looks", len(m.needs[1]), n.Looks())
	}
}
