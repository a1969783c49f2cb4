package solver_test

import (
	"fmt"
	"slices"
	"sync"
	"testing"

	"rafter/api"
	"rafter/graph"
	"rafter/lang"
	"rafter/solver"
	"rafter/span"
)

// mixed is a program with long numbers everywhere, some of them the same, and edges of all kinds. At its points hulls of several dimensions are found.
const mixed = "vars a = 4294967297, b = 4294967297, c, d = 4294967298; a := b; skip; choose { c := any; } or { c := b * b; } or { skip; } mark m; b := 4294967297 * a + 4294967297; if c = 3 { c := a; } else { d := c; } loop { d := d + 4294967297; } stop; skip;"

// wipe writes over a list, and the room behind it.
func wipe[T any](l []T, with T) {
	for i := range l[:cap(l)] {
		l[:cap(l)][i] = with
	}
}

// wipeNumbers writes over numbers, and all that they are made of.
func wipeNumbers(l []api.Whole) {
	for _, x := range l {
		wipe(x.Mag, 77)
	}
	wipe(l, api.Whole{Neg: true, Mag: []uint32{5}})
}

// apart fails the test if two of these lists share memory, the room behind them included.
func apart(t *testing.T, what string, l [][]uint32) {
	t.Helper()
	for i, a := range l {
		wipe(a, uint32(i+1))
	}
	for i, a := range l {
		if slices.ContainsFunc(a[:cap(a)], func(x uint32) bool { return x != uint32(i+1) }) {
			t.Fatalf("R3: %s: two lists share memory", what)
		}
	}
}

func TestToldApart(t *testing.T) { // R3: what was told is written on, and the result tells what it told
	r := solved(t, mixed)
	g := r.Graph()
	edges, begins, want := fmt.Sprint(g.Edges()), fmt.Sprint(g.Begins()), told(r)
	for p := range g.Points() {
		var all [][]uint32
		for _, x := range slices.Concat(r.Samples(p), r.Samples(p)) {
			for _, y := range x.State {
				all = append(all, y.Mag)
			}
		}
		for _, row := range slices.Concat(r.Rows(p), r.Rows(p)) {
			for _, y := range row {
				all = append(all, y.Mag)
			}
		}
		for v := range g.Vars() {
			c, _, _ := r.Constant(p, v)
			d, _, _ := r.Constant(p, v)
			all = append(all, c.Num.Mag, c.Den, d.Num.Mag, d.Den)
		}
		apart(t, "Samples, Rows, Constant", all)
		samples := r.Samples(p)
		for _, x := range samples {
			wipeNumbers(x.State)
		}
		wipe(samples, api.Sample{Point: 99})
		rows := r.Rows(p)
		for _, row := range rows {
			wipeNumbers(row)
		}
		wipe(rows, nil)
	}
	if got := told(r); got != want {
		t.Errorf("R3: %s; want %s", got, want)
	}
	if fmt.Sprint(g.Edges()) != edges || fmt.Sprint(g.Begins()) != begins {
		t.Error("R3: the graph has changed")
	}
}

func TestSpansApart(t *testing.T) { // R3: each span that is answered lies in memory of its own
	r := solved(t, mixed)
	want := told(r)
	for p := range r.Graph().Points() {
		one, _ := r.Span(p)
		two, _ := r.Span(p)
		if one == two || !one.Same(two) {
			t.Errorf("R3: %d: one span, or not the same", p)
		}
		for _, row := range slices.Concat(one.Rows(), one.Steps()) {
			wipeNumbers(row)
		}
		*one = span.Span{}
		if sayRows(two.Rows()) != sayRows(r.Rows(p)) {
			t.Errorf("R3: %d: %s", p, sayRows(two.Rows()))
		}
	}
	if got := told(r); got != want {
		t.Errorf("R3: %s; want %s", got, want)
	}
}

func TestStatesListsApart(t *testing.T) { // R3: no two states of one answer share the list itself
	r := solved(t, "vars a = 3, b; skip; skip;")
	for p := range 3 {
		l := r.Samples(p)
		wipe(l[0].State, api.Whole{Neg: true, Mag: []uint32{9}})
		if say(l[1].State) != "3 1" || sayStates(r.Samples(p)) != "3 0; 3 1" {
			t.Errorf("R3: %d: %s", p, sayStates(l))
		}
	}
}

func TestRowNotKept(t *testing.T) { // R3, R5: the row that is asked stays as it is
	r := solved(t, "vars x = 0, y = 1; loop { x := x + 1; y := y + 2; }")
	mag := append(make([]uint32, 0, 6), 2, 0, 0)
	copy(mag[:6][3:], []uint32{7, 8, 9})
	row := append(make([]api.Whole, 0, 5), api.Whole{Mag: mag}, api.Whole{Neg: true, Mag: []uint32{1, 0}}, api.Whole{Neg: true, Mag: []uint32{1}})
	row[:5][3] = api.Whole{Neg: true, Mag: []uint32{0, 0}}
	was, want := fmt.Sprint(row[:5], mag[:6]), told(r)
	for range 2 {
		if !implied(t, r, 1, row) || implied(t, r, 0, row) != true {
			t.Error("R5: it is implied")
		}
	}
	if got := fmt.Sprint(row[:5], mag[:6]); got != was {
		t.Errorf("R3: the row is %s; was %s", got, was)
	}
	wipeNumbers(row)
	if got := told(r); got != want {
		t.Errorf("R3: %s; want %s", got, want)
	}
}

func TestAskedAgain(t *testing.T) { // R4, R7: whatever was asked and refused before
	r := solved(t, mixed)
	want := told(r)
	r.Implied(-1, nil)
	r.Implied(0, nil)
	r.Constant(0, 99)
	r.Constant(99, 0)
	r.Span(-5)
	r.Print(1 << 40)
	r.Samples(-1)
	if got := told(r); got != want {
		t.Errorf("R4: %s; want %s", got, want)
	}
}

func TestTwoResults(t *testing.T) { // R4: of one graph, and of another one of the same text
	g := graphed(t, mixed)
	one, _ := solver.Solve(g)
	want := told(one)
	two, _ := solver.Solve(g)
	solved(t, "vars a = 1, b = 2; loop { a := a + b; }")
	three := solved(t, mixed)
	for i, r := range []*solver.Result{one, two, three} {
		if got := told(r); got != want {
			t.Errorf("R4: %d: %s; want %s", i, got, want)
		}
	}
	if one == two {
		t.Error("R4: one object")
	}
}

func TestSideBySide(t *testing.T) { // R4: calls made at the same time have nothing in common
	g := graphed(t, mixed)
	shared, _ := solver.Solve(g)
	want := told(shared)
	var group sync.WaitGroup
	for range 8 {
		group.Go(func() {
			for range 5 {
				if told(shared) != want {
					t.Error("R4: side by side a result tells something else")
				}
				if r, e := solver.Solve(g); e != api.OK || told(r) != want {
					t.Error("R4: side by side something else is found")
				}
			}
		})
	}
	group.Wait()
}

func FuzzSolve(f *testing.F) { // P12.1 to P12.5: run as a test, it goes through the seeds
	s := &stream{10}
	for n := range 150 {
		f.Add(s.program(n%5, 3, n%4, n%3 == 0, n%4 == 0))
	}
	f.Add(mixed)
	f.Fuzz(func(t *testing.T, text string) {
		p, e, _ := lang.Parse(text)
		if e != api.OK {
			return
		}
		g, e := graph.Of(p)
		if e != api.OK {
			return
		}
		if r := like(t, text, g); r != nil {
			told(r)
		}
	})
}
