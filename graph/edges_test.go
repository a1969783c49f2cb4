package graph_test

import (
	"fmt"
	"reflect"
	"slices"
	"strings"
	"testing"

	"rafter/api"
	"rafter/graph"
	"rafter/lang"
)

// shown tells an edge in short, all of it but its place.
func shown(e api.Edge) string {
	kind := []string{"?", "skip", "set", "any", "hard", "pick", "test"}[e.Kind]
	out := fmt.Sprintf("%d-%d %s", e.From, e.To, kind)
	switch e.Kind {
	case api.EdgeSet, api.EdgeAny, api.EdgeHard:
		out += fmt.Sprintf(" v%d", e.Var)
	case api.EdgePick:
		out += fmt.Sprintf(" %d/%d", e.Take, e.Many)
	case api.EdgeTest:
		out += fmt.Sprintf(" %d", e.Take)
	}
	if len(e.Row) > 0 {
		out += " (" + say(e.Row...) + ")"
	}
	return out
}

func TestEdges(t *testing.T) { // P10.1, and the chapter's examples
	for _, c := range []struct {
		text, want   string
		points, exit int
		pure         bool
	}{
		{"vars x;", "", 1, 0, true},
		{"vars;", "", 1, 0, true},
		{"vars x; mark a; mark b;", "", 1, 0, true},
		{"vars x; x := x + 1; x := any; x := x * x;", "0-1 set v0 (1 1), 1-2 any v0, 2-3 hard v0", 4, 3, false},
		{"vars x, y; y := x - 2*y + 3; y := any; y := y / x;", "0-1 set v1 (1 -2 3), 1-2 any v1, 2-3 hard v1", 4, 3, false},
		{"vars x; skip; skip;", "0-1 skip, 1-2 skip", 3, 2, true},
		{"vars x; stop;", "", 2, 1, true},
		{"vars x; stop; stop; skip;", "2-3 skip", 4, 3, true},
		{"vars x; loop { x := 2 * x; }", "0-1 skip, 1-2 pick 1/2, 2-3 set v0 (2 0), 3-1 skip, 1-4 pick 0/2", 5, 4, true},
		{"vars; loop { }", "0-1 skip, 1-2 pick 1/2, 2-1 skip, 1-3 pick 0/2", 4, 3, true},
		{"vars; loop { stop; } skip;", "0-1 skip, 1-2 pick 1/2, 3-1 skip, 1-4 pick 0/2, 4-5 skip", 6, 5, true},
		{"vars; loop { loop { } }", "0-1 skip, 1-2 pick 1/2, 2-3 skip, 3-4 pick 1/2, 4-3 skip, 3-5 pick 0/2, 5-1 skip, 1-6 pick 0/2", 7, 6, true},
		{"vars; choose { skip; } or { stop; }", "0-1 pick 0/2, 1-2 skip, 0-3 pick 1/2, 2-5 skip, 4-5 skip", 6, 5, true},
		{"vars; choose { }", "0-1 pick 0/1, 1-2 skip", 3, 2, true},
		{"vars; choose { } or { } or { skip; } skip;", "0-1 pick 0/3, 0-2 pick 1/3, 0-3 pick 2/3, 3-4 skip, 1-5 skip, 2-5 skip, 4-5 skip, 5-6 skip", 7, 6, true},
		{"vars; choose { choose { } or { } } or { }", "0-1 pick 0/2, 1-2 pick 0/2, 1-3 pick 1/2, 2-4 skip, 3-4 skip, 0-5 pick 1/2, 4-6 skip, 5-6 skip", 7, 6, true},
		{"vars x; if x != 1 { x := 0; }", "0-1 test 0 (1 1), 1-2 set v0 (0 0), 0-3 test 1 (1 1), 2-4 skip, 3-4 skip", 5, 4, false},
		{"vars x; if x = 1 { x := 0; }", "0-1 test 1 (1 1), 1-2 set v0 (0 0), 0-3 test 0 (1 1), 2-4 skip, 3-4 skip", 5, 4, false},
		{"vars x; if x = 1 { } else { }", "0-1 test 1 (1 1), 0-2 test 0 (1 1), 1-3 skip, 2-3 skip", 4, 3, false},
		{"vars x; if 4 != 2*x { } else { skip; } skip;", "0-1 test 0 (1 2), 0-2 test 1 (1 2), 2-3 skip, 1-4 skip, 3-4 skip, 4-5 skip", 6, 5, false},
		{"vars x; if x * x = 1 { } else { skip; }", "0-1 test 1, 0-2 test 0, 2-3 skip, 1-4 skip, 3-4 skip", 5, 4, false},
		{"vars x; if 1 = 2 { }", "0-1 test 1 (0 1), 0-2 test 0 (0 1), 1-3 skip, 2-3 skip", 4, 3, false},
		{"vars; if 1 != 1 { stop; }", "0-1 test 0 (0), 0-3 test 1 (0), 2-4 skip, 3-4 skip", 5, 4, false},
		{"vars x; while x = 1 { skip; } mark m; skip;", "0-1 skip, 1-2 test 1 (1 1), 2-3 skip, 3-1 skip, 1-4 test 0 (1 1), 4-5 skip", 6, 5, false},
		{"vars x; while x != 1 { }", "0-1 skip, 1-2 test 0 (1 1), 2-1 skip, 1-3 test 1 (1 1)", 4, 3, false},
		{"vars x; while x / 2 != 1 { x := any; }", "0-1 skip, 1-2 test 0, 2-3 any v0, 3-1 skip, 1-4 test 1", 5, 4, false},
	} {
		g := graphed(t, c.text)
		var l []string
		for _, e := range g.Edges() {
			l = append(l, shown(e))
		}
		if got := strings.Join(l, ", "); got != c.want || g.Points() != c.points || g.Exit() != c.exit || g.Pure() != c.pure {
			t.Errorf("P10.1: %s: %s; %d points, Exit %d, Pure %v; want %s", c.text, got, g.Points(), g.Exit(), g.Pure(), c.want)
		}
	}
}

func TestPlacesOfEdges(t *testing.T) { // P10.1: each edge stands where its statement does, those of further blocks too
	text := "vars \u03b1;\n choose { \u03b1 := any; } # \u00e9\n or { skip; }\n  if \u03b1 = 1 { } else { stop; }\nwhile 1 = 1 { loop { } } \u03b1 \u2254 \u03b1\u00b7\u03b1;"
	choose, branch, while, loop := strings.Index(text, "choose"), strings.Index(text, "if"), strings.Index(text, "while"), strings.Index(text, "loop")
	free, skip, last := strings.Index(text, "\u03b1 := any"), strings.Index(text, "skip"), strings.LastIndex(text, "\u03b1 \u2254")
	want := []int{choose, free, choose, skip, choose, choose, branch, branch, branch, branch, while, while, loop, loop, loop, loop, while, while, last}
	for i, e := range graphed(t, text).Edges() {
		if i >= len(want) || e.At != placeOf(text, want[i]) {
			t.Fatalf("P10.1: edge %d, %s, is at %v, want %v", i, shown(e), e.At, want)
		}
	}
}

func TestFieldsNotNamed(t *testing.T) { // P10.1: they are 0, lists without elements
	g := graphed(t, "vars x, y; y := y; y := any; y := x * y; skip; choose { } or { } if y = 1 { } if x * y != 1 { }")
	for i, want := range []api.Edge{
		{Kind: api.EdgeSet, Var: 1, Row: wides("0 1 0")}, {Kind: api.EdgeAny, Var: 1}, {Kind: api.EdgeHard, Var: 1}, {Kind: api.EdgeSkip},
		{Kind: api.EdgePick, Take: 0, Many: 2}, {Kind: api.EdgePick, Take: 1, Many: 2}, {Kind: api.EdgeSkip}, {Kind: api.EdgeSkip},
		{Kind: api.EdgeTest, Take: 1, Row: wides("0 1 1")}, {Kind: api.EdgeTest, Row: wides("0 1 1")}, {Kind: api.EdgeSkip}, {Kind: api.EdgeSkip},
		{Kind: api.EdgeTest}, {Kind: api.EdgeTest, Take: 1}, {Kind: api.EdgeSkip}, {Kind: api.EdgeSkip},
	} {
		got := g.Edges()[i]
		got.From, got.To, got.At = 0, 0, api.Place{}
		if len(got.Row) == 0 {
			got.Row = nil
		}
		for j := range got.Row {
			if len(got.Row[j].Mag) == 0 {
				got.Row[j].Mag = nil
			}
		}
		if !reflect.DeepEqual(got, want) {
			t.Errorf("P10.1: edge %d: %v, want %v", i, got, want)
		}
	}
}

func TestDrawnGraphs(t *testing.T) { // P10.1, P10.2
	s := &stream{1}
	met := map[string]int{}
	for n := range 4000 {
		p := s.program(2+n%4, n%5)
		names := plainNames(p)
		text := s.lay(p, names, n%2 == 0)
		if len(text) > api.MaxText {
			continue
		}
		m := modelOf(p, names)
		if m.points > api.MaxPoints || m.long {
			met["too big"]++
			tooBig(t, text)
			continue
		}
		met["taken"]++
		if m.points > api.MaxPoints/2 {
			met["great"]++
		}
		g := graphed(t, text)
		sameGraph(t, text, g, m)
		traced, starts, e := graph.Trace(parsed(t, text))
		if e != api.OK || !slices.Equal(starts, m.starts) {
			t.Fatalf("P10.1: the statements of %q begin at %v, want %v", text, starts, m.starts)
		}
		sameGraph(t, text, traced, m)
		if want := parsed(t, text).Begins(); !reflect.DeepEqual(g.Begins(), want) {
			t.Fatalf("P10.2: Begins of %q: %v, want %v", text, g.Begins(), want)
		}
	}
	if met["taken"] < 2000 || met["great"] < 200 || met["too big"] < 100 {
		t.Errorf("too few of a kind were drawn: %v", met)
	}
}

func TestPointsAtLimit(t *testing.T) { // P10.1: MaxPoints is well, one more is not, whatever makes the last one
	for last, makes := range map[string]int{
		"": 0, "mark m;": 0, "skip;": 1, "stop;": 1, "x := any;": 1, "x := 1;": 1, "x := x * x;": 1,
		"choose { }": 2, "choose { } or { }": 3, "loop { }": 3, "if x = 1 { }": 3, "if x = 1 { } else { }": 3, "while x = 1 { }": 3, "while x = 1 { stop; }": 4, "choose { } or { stop; stop; } or { loop { } }": 9,
	} {
		ahead := api.MaxPoints - 1 - makes
		g := graphed(t, "vars x;"+strings.Repeat("skip;", ahead)+last)
		if g.Points() != api.MaxPoints || g.Exit() != api.MaxPoints-1 {
			t.Errorf("P10.1: %q: %d points, Exit %d", last, g.Points(), g.Exit())
		}
		tooBig(t, "vars x;"+strings.Repeat("skip;", ahead+1)+last)
		tooBig(t, "vars x;"+last+strings.Repeat("stop;", ahead+1))
	}
	tooBig(t, "vars;"+strings.Repeat("skip;", (api.MaxText-5)/5))
	tooBig(t, "vars;choose{}"+strings.Repeat("or{}", (api.MaxText-13)/4))
	for _, word := range []string{"loop{", "choose{", "if 1=1{", "while 1=1{"} {
		text := "vars;" + strings.Repeat(word, api.MaxNest) + strings.Repeat("}", api.MaxNest)
		if g := graphed(t, text); g.Points() > 1+3*api.MaxNest {
			t.Errorf("P10.1: %q: %d points", text, g.Points())
		}
	}
}

func TestLongForms(t *testing.T) { // P10.1: an EdgeSet's numbers have at most MaxLimbs limbs; nothing else is asked
	for _, x := range []string{
		most, "-" + most, most + "*x", "x-" + most + "*y", "x+" + most, most + "+1-1", most + "*" + most + "/" + most, most + "*" + most + "*0", "(" + most + "+1)*(y-y)",
		most + "*" + most + "*x*x", "x*x+" + most + "*" + most, "(" + most + "+1)*x/1", // these have no form
	} {
		g := graphed(t, "vars x, y; x := "+x+";")
		kind := api.EdgeSet
		if strings.Contains(x, "x*x") || strings.HasSuffix(x, "/1") {
			kind = api.EdgeHard
		}
		if e := g.Edges()[0]; e.Kind != kind {
			t.Errorf("P10.1: %.20s..: %s", x, shown(e))
		}
	}
	for _, x := range []string{
		most + "+1", "-" + most + "-1", most + "*" + most, most + "*2*x", "x-2*" + most + "*y", "x+1+" + most, "y*" + most + "+y", "-(x*" + most + "+x)", "(1+" + most + ")*(x-x+1)",
	} {
		for _, around := range []string{"%;", "stop; %;", "skip; choose { } or { loop { %; } }", "if 1 = 1 { } else { %; }", "while 1 = 2 { %; }", "%; x := x * x;", "%; y := 1;"} {
			tooBig(t, "vars x, y;"+strings.ReplaceAll(around, "%", "x := "+x))
			tooBig(t, "vars x, y;"+strings.ReplaceAll(around, "%", "y := "+x))
		}
	}
	for _, c := range []string{most + "*" + most + "= x", "x*" + most + "+x = 1", "x*(" + most + "+1) != " + most} {
		g := graphed(t, "vars x; if "+c+"{ } while "+c+" { }")
		for _, e := range g.Edges() {
			if len(e.Row) > 0 {
				t.Errorf("P10.1: %.20s..: %s has a row", c, shown(e))
			}
		}
	}
	m := most + "+1"
	g := graphed(t, "vars x; if "+m+" = ("+m+")*x { }") // as a canonical row it is short
	if got := say(g.Edges()[0].Row...); got != "1 1" {
		t.Errorf("P10.1: the row is %s", got)
	}
}

func TestMarks(t *testing.T) { // P10.2
	g := graphed(t, "vars x = 2, y; mark a; x := any; mark b; mark c; loop { mark in; stop; mark x; } mark \u03a9; if x = 1 { mark q; } else { mark r; }")
	if got := strings.Join(g.Marks(), " "); got != "a b c in x \u03a9 q r" {
		t.Errorf("P10.2: Marks: %s", got)
	}
	for name, want := range map[string]int{"a": 0, "b": 1, "c": 1, "in": 3, "x": 4, "\u03a9": 5, "q": 6, "r": 7} {
		if p, ok := g.Mark(name); p != want || !ok {
			t.Errorf("P10.2: Mark(%q): %d, %v; want %d", name, p, ok, want)
		}
	}
	for _, name := range []string{"", "y", "A", "a ", " a", "in;", "\u03c9", "mark", "\xff", "ab", strings.Repeat("a", 5000)} {
		if p, ok := g.Mark(name); p != 0 || ok {
			t.Errorf("P10.2: Mark(%q): %d, %v; there is none", name, p, ok)
		}
	}
	if l := graphed(t, "vars;").Marks(); len(l) != 0 {
		t.Errorf("P10.2: Marks of none: %q", l)
	}
}

func TestVarsAndBegins(t *testing.T) { // P10.2
	g := graphed(t, "vars x = -0, \u03b2, c = -"+most+"; skip;")
	if !slices.Equal(g.Vars(), []string{"x", "\u03b2", "c"}) {
		t.Errorf("P10.2: Vars: %q", g.Vars())
	}
	b := g.Begins()
	if len(b) != 3 || b[0].Name != "x" || b[0].Any || !oneForm(b[0].Value) || say(b[0].Value) != "0" || b[1].Name != "\u03b2" || !b[1].Any || len(b[1].Value.Mag) > 0 || b[2].Any || say(b[2].Value) != "-"+most {
		t.Errorf("P10.2: Begins: %v", b)
	}
	if g := graphed(t, "vars;"); len(g.Vars())+len(g.Begins())+len(g.Edges())+len(g.Out(0))+len(g.In(0)) != 0 {
		t.Error("P10.2: of a program of nothing something is told")
	}
}

func TestNoProgram(t *testing.T) { // P10.1
	if g, e := graph.Of(nil); g != nil || e != api.ErrArg {
		t.Errorf("P10.1: Of(nil): %v, %v", g, e)
	}
	if g, starts, e := graph.Trace(nil); g != nil || starts != nil || e != api.ErrArg {
		t.Errorf("P10.1: Trace(nil): %v, %v, %v", g, starts, e)
	}
	graph.Of(&lang.Program{}) // R1: it ends, whatever it answers
}
