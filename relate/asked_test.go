package relate_test

import (
	"math"
	"slices"
	"strings"
	"testing"

	"rafter/affine"
	"rafter/api"
	"rafter/graph"
	"rafter/relate"
)

// nowhere are numbers that are no point's, of a graph with so many.
func nowhere(points int) []int {
	return []int{-1, points, points + 1, math.MinInt, math.MaxInt, -points, 1 << 32, 1 << 40}
}

func TestNoPoint(t *testing.T) { // P17.3, R1, R2: ErrPoint comes first, and nothing beside it
	for _, text := range []string{"vars;", "vars x = 3, y;", "vars x = 0, y = 1; loop { x := x + 1; y := y + 2; }"} {
		g := graphed(t, text)
		r := related(t, g)
		n := 2 * len(g.Vars())
		for _, p := range nowhere(g.Points()) {
			if len(r.Samples(p))+len(r.Rows(p)) != 0 || r.Dim(p) != -1 {
				t.Errorf("P17.3: %s at %d: %v, %v, %d", text, p, r.Samples(p), r.Rows(p), r.Dim(p))
			}
			if s, e := r.Print(p); s != "" || e != api.ErrPoint {
				t.Errorf("P17.3: %s at %d: %q, %v", text, p, s, e)
			}
			for _, row := range [][]api.Whole{nil, make([]api.Whole, n), make([]api.Whole, n+1)} {
				if is, e := r.Implied(p, row); is || e != api.ErrPoint {
					t.Errorf("P17.3: %s at %d: %v, %v", text, p, is, e)
				}
			}
			for _, equation := range []string{"", "0 = 0", "x = x°", "w = 1", "@", "\xff", strings.Repeat(" ", api.MaxText+1)} {
				if is, e, at := r.Text(p, equation); is || e != api.ErrPoint || at != (api.Place{}) {
					t.Errorf("P17.3: %s: %.20q at %d: %v, %v, %v", text, equation, p, is, e, at)
				}
			}
		}
	}
}

func TestWrongRow(t *testing.T) { // P17.3, R2: at a point with pairs, and at one without
	r := relatedOf(t, "vars x = 3, y; skip; stop;")
	for p := range 3 {
		for _, count := range []int{0, 1, 2, 3, 4, 6, 9, 100} {
			if is, e := r.Implied(p, make([]api.Whole, count)); is || e != api.ErrArg {
				t.Errorf("P17.3: %d numbers at %d: %v, %v", count, p, is, e)
			}
		}
	}
	none := relatedOf(t, "vars;")
	for _, count := range []int{0, 2, 3} {
		if is, e := none.Implied(0, make([]api.Whole, count)); is || e != api.ErrArg {
			t.Errorf("P17.3: %d numbers: %v, %v", count, is, e)
		}
	}
}

// loops is a program in which what holds in its loop is told by no number of a beginning.
const loops = "vars x, y; loop { x := x + 1; y := y + 2; }"

func TestImplied(t *testing.T) { // P17.3
	r := relatedOf(t, loops)
	for _, x := range []struct {
		point int
		row   string
		want  bool
	}{
		{1, "2 -1 -2 1 0", true}, {1, "-2 1 2 -1 0", true}, {1, "P 0 0 0 0", false}, {1, "4 -2 -4 2 0", true}, {1, "0 0 0 0 0", true}, {1, "0 0 0 0 1", false}, {1, "2 -1 -2 1 1", false}, {1, "2 -1 0 0 0", false}, {1, "1 0 -1 0 0", false}, {1, "-2 1 -2 1 0", false},
		{0, "1 0 -1 0 0", true}, {0, "0 1 0 -1 0", true}, {0, "3 P -3 -P 0", true}, {0, "1 0 0 -1 0", false}, {0, "1 0 1 0 0", false}, {0, "1 0 0 0 0", false}, {0, "0 0 1 0 0", false},
		{3, "2 -1 -2 1 2", true}, {3, "2 -1 -2 1 0", false}, {5, "2 -1 -2 1 0", true},
	} {
		if got := implied(t, r, x.point, numbers(x.row)); got != x.want {
			t.Errorf("P17.3: %s at %d: %v", x.row, x.point, got)
		}
	}
	long := relatedOf(t, "vars x = M, y; y := x; x := 3;")
	for row, want := range map[string]bool{"0 1 0 0 M": true, "0 P -P 0 0": true, "0 0 1 0 M": true, "1 0 1 0 P": false, "0 1 0 0 N": false, "0 0 0 1 0": false} {
		if got := implied(t, long, 2, numbers(row)); got != want {
			t.Errorf("P17.3: %s: %v", row, got)
		}
	}
}

func TestImpliedByValue(t *testing.T) { // R5: limbs 0 on top, a sign of 0
	r := relatedOf(t, loops)
	for _, nought := range []api.Whole{{}, {Neg: true}, {Mag: []uint32{0, 0}}, {Neg: true, Mag: []uint32{0}}} {
		loose := []api.Whole{{Mag: []uint32{2, 0, 0}}, {Neg: true, Mag: []uint32{1, 0}}, {Neg: true, Mag: []uint32{2}}, {Mag: []uint32{1, 0, 0, 0}}, nought}
		if !implied(t, r, 1, loose) || !implied(t, r, 1, []api.Whole{nought, nought, nought, nought, nought}) {
			t.Errorf("R5: %v", nought)
		}
	}
}

func TestText(t *testing.T) { // P17.3: what an equation over Names says
	r := relatedOf(t, "vars x, y = 2; loop { x := x + 3; } y := y - x;")
	exit := 5
	for equation, want := range map[string]bool{
		"y = 2 - x": true, "y + x = y°": true, "y° = 2": true, "2y° = 4": true, "y = y° - x # so": true, "1/2·x + 1/2 y = 1/2·y°": true, "−x = y − y°": true, "0 = 0": true, "x° = x°": true,
		"x = x°": false, "x° = 0": false, "y = 2": false, "x = 0": false, "0 = 1": false, "y = x": false,
	} {
		if is, e, at := r.Text(exit, equation); is != want || e != api.OK || at != (api.Place{}) {
			t.Errorf("P17.3: %q: %v, %v, %v; want %v", equation, is, e, at, want)
		}
	}
	for _, text := range []string{"x = x°", "y = 2", "y = y°"} {
		if is, e, at := r.Text(0, text); !is || e != api.OK || at != (api.Place{}) {
			t.Errorf("P17.3: %q: %v, %v, %v", text, is, e, at)
		}
	}
}

func TestTextRefused(t *testing.T) { // P17.3, R2: what affine.Equation refuses over Names, at a point with pairs, and at one without
	r := relatedOf(t, "vars x, y; skip; stop;")
	for _, x := range []struct {
		equation string
		e        api.Errno
		at       api.Place
	}{
		{"", api.ErrBadEquation, api.Place{Byte: 0, Glyph: 0, Line: 1, Column: 1}},
		{"z = 1", api.ErrBadEquation, api.Place{Byte: 0, Glyph: 0, Line: 1, Column: 1}},
		{"x° = z°", api.ErrBadEquation, api.Place{Byte: 6, Glyph: 5, Line: 1, Column: 6}},
		{"x = x°°", api.ErrBadEquation, api.Place{Byte: 4, Glyph: 4, Line: 1, Column: 5}},
		{"x =\nx° y°", api.ErrBadEquation, api.Place{Byte: 8, Glyph: 7, Line: 2, Column: 4}},
		{"x = °", api.ErrBadEquation, api.Place{Byte: 4, Glyph: 4, Line: 1, Column: 5}},
		{"x ≔ x°", api.ErrBadEquation, api.Place{Byte: 2, Glyph: 2, Line: 1, Column: 3}},
		{"x° = y°/2", api.ErrBadEquation, api.Place{Byte: 9, Glyph: 7, Line: 1, Column: 8}},
		{"x° = 1/0", api.ErrBadEquation, api.Place{Byte: 8, Glyph: 7, Line: 1, Column: 8}},
		{"x° = \xff", api.ErrBadEquation, api.Place{Byte: 6, Glyph: 5, Line: 1, Column: 6}},
		{"x° = " + strings.Repeat("n", api.MaxName+1), api.ErrBadEquation, api.Place{Byte: 6, Glyph: 5, Line: 1, Column: 6}},
		{"x° = P", api.ErrTooBig, api.Place{Byte: 6, Glyph: 5, Line: 1, Column: 6}},
		{"M x° = 1/2", api.ErrTooBig, api.Place{}},
		{"x = y" + strings.Repeat(" ", api.MaxText), api.ErrTooBig, api.Place{}},
	} {
		for p := range 3 {
			if is, e, at := r.Text(p, spelt(x.equation)); is || e != x.e || at != x.at {
				t.Errorf("P17.3: %.40q at %d: %v, %v, %v; want %v, %v", x.equation, p, is, e, at, x.e, x.at)
			}
		}
	}
	blanks := "x = x°" + strings.Repeat(" ", api.MaxText-len("x = x°"))
	if is, e, at := r.Text(0, blanks); !is || e != api.OK || at != (api.Place{}) {
		t.Errorf("P17.3: as long as a text may be: %v, %v, %v", is, e, at)
	}
	if is, e, at := r.Text(0, spelt("M x° = M x")); !is || e != api.OK || at != (api.Place{}) {
		t.Errorf("P17.3: a number as long as it may be: %v, %v, %v", is, e, at)
	}
}

func TestPrint(t *testing.T) { // P17.3: span's Print over Names
	for _, x := range []struct {
		text  string
		point int
		want  string
	}{
		{"vars x = 0, y = 1; loop { x := x + 1; y := y + 2; }", 0, "x = 0\ny = 1\nx° = 0\ny° = 1\n"},
		{"vars x = 0, y = 1; loop { x := x + 1; y := y + 2; }", 5, "2*x - y = -1\nx° = 0\ny° = 1\n"},
		{"vars α₁, β; β ≔ any; α₁ ≔ β;", 2, "α₁ - β = 0\n"},
		{"vars α₁, β; β ≔ α₁; α₁ ≔ 2·β − 1;", 2, "α₁ - 2*α₁° = -1\nβ - α₁° = 0\n"},
		{"vars x, y;", 0, "x - x° = 0\ny - y° = 0\n"},
		{"vars x; x := any;", 1, ""},
		{"vars;", 0, ""},
		{"vars; stop;", 1, "0 = 1\n"},
		{"vars x = M, y; y := x - N;", 1, "x = M\ny = 2\nx° = M\n"},
	} {
		if got, e := relatedOf(t, x.text).Print(x.point); e != api.OK || got != spelt(x.want) {
			t.Errorf("P17.3: %s at %d: %q, %v; want %q", x.text, x.point, got, e, x.want)
		}
	}
}

func TestSayTheSame(t *testing.T) { // P17.3: Print, Text, Rows and Implied say the same, of each point
	s := &stream{2}
	lines := 0
	count := map[bool]int{}
	held(t, s, 300, func(text string, g *graph.Graph, r *relate.Relation) {
		names := r.Names()
		for p := range g.Points() {
			printed, e := r.Print(p)
			if e != api.OK {
				t.Fatalf("P17.3: %q at %d: %v", text, p, e)
			}
			var want strings.Builder
			for _, row := range r.Rows(p) {
				line, _ := affine.Print(row, names)
				want.WriteString(line + "\n")
				is, e, at := r.Text(p, line)
				if !is || e != api.OK || at != (api.Place{}) || !implied(t, r, p, row) {
					t.Fatalf("P17.3: %q at %d: %s is a row, and not implied: %v, %v", text, p, line, e, at)
				}
				lines++
			}
			if printed != want.String() {
				t.Fatalf("P17.3: %q at %d: %q; want %q", text, p, printed, want.String())
			}
			row := s.row(len(names))
			equation, _ := affine.Print(row, names)
			want2 := implied(t, r, p, row)
			if is, e, _ := r.Text(p, equation); e == api.OK && is != want2 || e != api.OK && e != api.ErrTooBig {
				t.Fatalf("P17.3: %q at %d: %s: %v, %v; want %v", text, p, equation, is, e, want2)
			}
			count[want2]++
		}
	})
	if lines < 2000 || count[true] < 50 || count[false] < 500 {
		t.Errorf("too few of a kind were drawn: %d, %v", lines, count)
	}
}

// rowsOf answers rows to ask of a point: drawn ones, some of its own, sums of these, and those of its own with another right side.
func (s *stream) rowsOf(r *relate.Relation, point int) [][]api.Whole {
	n := len(r.Names())
	out := [][]api.Whole{s.row(n), make([]api.Whole, n+1)}
	sum := make([]api.Whole, n+1)
	for _, row := range r.Rows(point) {
		by := s.below(7) - 3
		for i, x := range row {
			sum[i] = added(sum[i], by, x)
		}
		turned := slices.Clone(row)
		turned[n] = added(row[n], s.below(3)-1, numbers("1")[0])
		out = append(out, row, turned)
	}
	return append(out, sum)
}

func TestImpliedByPairs(t *testing.T) { // P17.3: just where all pairs meet it
	s := &stream{4}
	count := map[bool]int{}
	held(t, s, 300, func(text string, g *graph.Graph, r *relate.Relation) {
		for p := range g.Points() {
			for _, row := range s.rowsOf(r, p) {
				want := !slices.ContainsFunc(r.Samples(p), func(pair []api.Whole) bool { return !meets(pair, row) })
				count[want]++
				if got := implied(t, r, p, row); got != want {
					t.Fatalf("P17.3: %q at %d: %s: %v", text, p, say(row), got)
				}
			}
		}
	})
	if count[true] < 1000 || count[false] < 1000 {
		t.Errorf("too few of a kind were drawn: %v", count)
	}
}
