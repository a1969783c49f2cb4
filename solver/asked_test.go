package solver_test

import (
	"fmt"
	"math"
	"testing"

	"rafter/api"
	"rafter/solver"
)

// nowhere are numbers that are no point's, of a graph with so many.
func nowhere(points int) []int {
	return []int{-1, points, points + 1, math.MinInt, math.MaxInt, -points, 1 << 32, 1 << 40}
}

func TestNoPoint(t *testing.T) { // P12.5 to P12.8, R1, R2: ErrPoint comes first, and nothing beside it
	for _, text := range []string{"vars;", "vars x = 3, y;", "vars x = 0, y = 1; loop { x := x + 1; y := y + 2; }"} {
		r := solved(t, text)
		n := len(r.Graph().Vars())
		for _, p := range nowhere(r.Graph().Points()) {
			if len(r.Samples(p))+len(r.Rows(p)) != 0 || r.Dim(p) != -1 {
				t.Errorf("P12.5: %s at %d: %v, %v, %d", text, p, r.Samples(p), r.Rows(p), r.Dim(p))
			}
			if s, e := r.Span(p); s != nil || e != api.ErrPoint {
				t.Errorf("P12.5: %s at %d: %v, %v", text, p, s, e)
			}
			if s, e := r.Print(p); s != "" || e != api.ErrPoint {
				t.Errorf("P12.8: %s at %d: %q, %v", text, p, s, e)
			}
			for _, row := range [][]api.Whole{nil, make([]api.Whole, n), make([]api.Whole, n+1)} {
				if is, e := r.Implied(p, row); is || e != api.ErrPoint {
					t.Errorf("P12.6: %s at %d: %v, %v", text, p, is, e)
				}
			}
			for _, v := range []int{-1, 0, n, math.MinInt, math.MaxInt} {
				if c, ok, e := r.Constant(p, v); ok || e != api.ErrPoint || c.Num.Mag != nil || c.Den != nil {
					t.Errorf("P12.7: %s at %d: %v, %v, %v", text, p, c, ok, e)
				}
			}
		}
	}
}

func TestWrongArguments(t *testing.T) { // P12.6, P12.7, R1, R2: at a point with samples, and at one without
	r := solved(t, "vars x = 3, y; skip; stop;")
	for p := range 3 {
		for _, count := range []int{0, 1, 2, 4, 9, 100} {
			if is, e := r.Implied(p, make([]api.Whole, count)); is || e != api.ErrArg {
				t.Errorf("P12.6: %d numbers at %d: %v, %v", count, p, is, e)
			}
		}
		for _, v := range []int{-1, 2, 3, math.MinInt, math.MaxInt, 1 << 32} {
			if c, ok, e := r.Constant(p, v); ok || e != api.ErrArg || c.Num.Mag != nil || c.Den != nil {
				t.Errorf("P12.7: %d at %d: %v, %v, %v", v, p, c, ok, e)
			}
		}
	}
	if _, _, e := solved(t, "vars;").Constant(0, 0); e != api.ErrArg {
		t.Errorf("P12.7: %v", e)
	}
}

func TestImplied(t *testing.T) { // P12.6
	r := solved(t, "vars x = 0, y = 1; loop { x := x + 1; y := y + 2; }")
	for _, x := range []struct {
		point int
		row   string
		want  bool
	}{
		{1, "2 -1 -1", true}, {1, "-2 1 1", true}, {1, "4 -2 -2", true}, {1, "0 0 0", true}, {1, "0 0 1", false}, {1, "0 0 P", false}, {1, "1 0 0", false}, {1, "0 1 1", false}, {1, "2 -1 0", false}, {1, "2 1 1", false},
		{0, "1 0 0", true}, {0, "0 1 1", true}, {0, "7 5 5", true}, {0, "P 3 3", true}, {0, "P P P", true}, {0, "1 1 0", false}, {0, "0 0 0", true}, {0, "0 0 -1", false},
		{5, "2 -1 -1", true}, {5, "1 0 1", false}, {3, "2 -1 1", true}, {3, "2 -1 -1", false},
	} {
		if got := implied(t, r, x.point, numbers(x.row)); got != x.want {
			t.Errorf("P12.6: %s at %d: %v", x.row, x.point, got)
		}
	}
	long := solved(t, "vars x = M, y; y := x;")
	for row, want := range map[string]bool{"P -P 0": true, "1 0 M": true, "1 0 P": false, "M N 0": false} {
		if got := implied(t, long, 1, numbers(row)); got != want {
			t.Errorf("P12.6: %s: %v", row, got)
		}
	}
}

func TestImpliedByValue(t *testing.T) { // R5: limbs 0 on top, a sign of 0
	r := solved(t, "vars x = 0, y = 1; loop { x := x + 1; y := y + 2; }")
	loose := []api.Whole{{Mag: []uint32{2, 0, 0}}, {Neg: true, Mag: []uint32{1, 0}}, {Neg: true, Mag: []uint32{1}}}
	if !implied(t, r, 1, loose) {
		t.Error("R5: 2 -1 | -1 in another form")
	}
	for _, nought := range []api.Whole{{}, {Neg: true}, {Mag: []uint32{0, 0}}, {Neg: true, Mag: []uint32{0}}} {
		if !implied(t, r, 1, []api.Whole{nought, nought, nought}) || !implied(t, r, 0, []api.Whole{{Mag: []uint32{9}}, nought, nought}) {
			t.Errorf("R5: %v", nought)
		}
	}
}

func TestConstant(t *testing.T) { // P12.7
	r := solved(t, "vars a = -5, b, c = 0, d = M; b := 2 * a; loop { c := c + 1; } d := c - c + 7; b := any;")
	exit := r.Graph().Exit()
	for _, x := range []struct {
		point, v int
		want     string
	}{
		{0, 0, "-5/1"}, {0, 1, ""}, {0, 2, "0/1"}, {0, 3, "M/1"},
		{1, 0, "-5/1"}, {1, 1, "-10/1"}, {1, 2, "0/1"}, {1, 3, "M/1"},
		{2, 1, "-10/1"}, {2, 2, ""}, {2, 3, "M/1"},
		{exit, 0, "-5/1"}, {exit, 1, ""}, {exit, 2, ""}, {exit, 3, "7/1"},
	} {
		c, ok, e := r.Constant(x.point, x.v)
		got := ""
		if ok {
			got = sayRatio(c)
		} else if c.Num.Mag != nil || c.Num.Neg || c.Den != nil {
			t.Errorf("R2: %v beside a false", c)
		}
		if e != api.OK || got != spelt(x.want) {
			t.Errorf("P12.7: %d at %d: %s, %v; want %s", x.v, x.point, got, e, x.want)
		}
	}
}

func TestConstantIsARow(t *testing.T) { // P12.7: just where a row says it, of each variable at each point
	s := &stream{2}
	count := map[bool]int{}
	held(t, s, 400, func(text string, r *solver.Result) {
		n := len(r.Graph().Vars())
		for p := range r.Graph().Points() {
			for v := range n {
				c, ok, e := r.Constant(p, v)
				if e != api.OK {
					t.Fatalf("P12.7: %v", e)
				}
				count[ok]++
				row := make([]api.Whole, n+1)
				row[v] = wholeOf(power(0, 0))
				if l := r.Samples(p); len(l) > 0 {
					row[n] = l[0].State[v]
				}
				want := len(r.Samples(p)) > 0 && implied(t, r, p, row)
				if ok != want || ok && sayRatio(c) != say(row[n:])+"/1" {
					t.Fatalf("P12.7: %q at %d: %v, %v; want %v", text, p, c, ok, want)
				}
			}
		}
	})
	if count[true] < 500 || count[false] < 500 {
		t.Errorf("too few of a kind were drawn: %v", count)
	}
}

func TestPrint(t *testing.T) { // P12.8
	for _, x := range []struct {
		text  string
		point int
		want  string
	}{
		{"vars x = 0, y = 1; loop { x := x + 1; y := y + 2; }", 0, "x = 0\ny = 1\n"},
		{"vars x = 0, y = 1; loop { x := x + 1; y := y + 2; }", 5, "2*x - y = -1\n"},
		{"vars α₁, β; β ≔ any; α₁ ≔ β;", 2, "α₁ - β = 0\n"},
		{"vars x, y;", 0, ""},
		{"vars;", 0, ""},
		{"vars; stop;", 1, "0 = 1\n"},
		{"vars x = M, y; y := x - N;", 1, "x = M\ny = 2\n"},
		{"vars x = 0, y = 0, z = 0; loop { x := x + 2; y := y + 3; }", 1, "3*x - 2*y = 0\nz = 0\n"},
	} {
		if got, e := solved(t, x.text).Print(x.point); e != api.OK || got != spelt(x.want) {
			t.Errorf("P12.8: %s at %d: %q, %v; want %q", x.text, x.point, got, e, x.want)
		}
	}
}

func TestSameText(t *testing.T) { // P12.8, W6: the same text just where the hulls are the same, whatever came to them
	s := &stream{3}
	same, texts := 0, map[string]string{}
	held(t, s, 600, func(text string, r *solver.Result) {
		vars := fmt.Sprint(r.Graph().Vars())
		for p := range r.Graph().Points() {
			printed, e := r.Print(p)
			if e != api.OK {
				t.Fatalf("P12.8: %q at %d: %v", text, p, e)
			}
			key, rows := vars+printed, sayRows(r.Rows(p))
			if was, there := texts[key]; there && was != rows {
				t.Fatalf("W6: %q at %d: %q says %s and %s", text, p, printed, was, rows)
			} else if there {
				same++
			}
			texts[key] = rows
		}
	})
	if same < 500 || len(texts) < 500 {
		t.Errorf("too few of a kind were drawn: %d, %d", same, len(texts))
	}
}

func TestGraph(t *testing.T) { // P12.5
	g := graphed(t, "vars x = 3, y; skip;")
	r, e := solver.Solve(g)
	if e != api.OK || r.Graph() != g {
		t.Errorf("P12.5: %v", e)
	}
}
